import Derived.Deep.DeepCutAuto
import Derived.Deep.CutBlock
import Derived.Test.YtkfcfigbgmbaiaaGreatK37
import Derived.Deep.RegionLaw
import Derived.Test.YtkfcfigbgmbaiaaGreatK34
namespace Go.Proofs.YtkfcfigbgmbaiaaGreat
set_option maxRecDepth 20000
open Go.RowKit
set_option linter.unusedVariables false
set_option maxHeartbeats 16000000
open Go.Value renaming int→I,slice→sL,bool→bO,pointer→pT,agg→aG
open Go.IntKind renaming i64→J
open Go.Ending renaming returned→rT
open Go.Proofs.Tryz renaming prog→Tp
variable {κ κ' κ0 : Nat → Nat} {H : Ho} {s : Sl} {w W W' : World} {p r q : Nat} {FL L : List Value} {T : TypeId}
theorem fw.col (h:fw w κ0 p r q FL T κ H s L W) {g:Nat} (hg:g<W.heap.size) (hw:w.heap.size≤g) (h0:κ g=0) (c:Nat) (hn:g≠p∧g≠r∧g≠q):fw w κ0 p r q FL T (fun x=>if x=g then c else κ x) H s L W:=
 ⟨h.p,h.r,h.f,h.g.col hg h0 c,h.m.col hw c,by rw[if_neg (fun e=>hn.1 e.symm),if_neg (fun e=>hn.2.1 e.symm),if_neg (fun e=>hn.2.2 e.symm)];exact h.z⟩
theorem submit_G (h:hG κ H s w) (t:Int) (F:R5) (fa:Option Addr) (fm fc:Nat) (hf:iB w fa fm fc F.l) (hfm:fm≤1048576) (hn2:H.bx.length≤1000) (hn:H.qu.length≤1000) (hlo:0≤H.lo∧H.lo≤100000) (hst:0≤H.st∧H.st≤1000000) :
  Calls Tp 166 #[aG (hoL H s).toArray,I J t,frV F.e F.i F.r F.d fa fm fc] w (hA w κ (subHo H t F)):=by
 have F0:Hid _:=fw.new3 h [bO F.e,I .u32 (F.i:Int),bO F.r,I J F.d,sL fa fm fc]
 have HN:Hid (H.qu.length≤1000∧0≤H.lo∧H.lo≤100000):=⟨hn,hlo⟩
 have hnn:s.n2≤1000:=by have:=h.n2;omega
 have HFD:=hidG hf
 have HVF:Hid (∀ W,Calls Tp 47 #[frV F.e F.i F.r F.d fa fm fc] W fun o w'=>o = rT (bO (vB F.e F.i F.r F.d F.l.length))∧Below W.heap.size W w'):=fun W=>by have:=specValid_any W F.e F.i F.r F.d fa fm fc;rw[hf.len] at this ⊢;exact this
 clear h hn hlo hn2 hf;go_enter Tryz.func166,Tryz.ntmps166
 go_upto_region 1 with fail
 generalize hV:World.alloc (World.alloc (World.alloc w _) _) _=v at *;have hv0:Below w.heap.size w v:=by rw[← hV];exact (((bW _ _).alloc (nR _) _).alloc (by simp) _).alloc (by simp;omega) _
 have HBV:=hidG hv0
 clear hV hv0;have F0:Hid (fw3 w κ [bO F.e,I .u32 (F.i:Int),bO F.r,I J F.d,sL fa fm fc] κ H s (hoL H s) v):=F0
 by_cases ht:0≤t∧t≤9999
 case neg=>
  have HRL:Hid (subHo H t F=pH H (ev3 5 0 1)):=by show _=_;unfold subHo;rw[if_pos ht]
  have hd:decide (t<0)=true∨decide (t<0)=false∧decide (9999<t)=true:=by simp;omega
  clear ht;rcases hd with d1|⟨d1,d2⟩
  all_goals
   go_wp2_with (refine fw.ld F0.out ?_)
   refine (say_G F0.out.g 5 0 1 HN.out.1 HN.out.2).mono ?_
   rintro o w9 ⟨s1,κ1,rfl,G1⟩;have F9:=hidG (F0.out.call G1.out)
   clear F0 G1;go_wp2_with (refine fw.rt F9.out ?_;intro w8 b8 G8)
   refine bC Tryz.results166 (lv39 b8) ?_
   rw[HRL.out]
   exact⟨s1,κ1,rfl,G8⟩
 case pos=>
 have HT:=hidG ht
 have d1:decide (t<0)=false:=by simpa using ht.1
 have d2:decide (9999<t)=false:=by simpa using ht.2
 clear ht;go_wp2_with (refine lq55 (cs:=[bO F.e,I .u32 (F.i:Int),bO F.r,I J F.d,sL fa fm fc]) F0.out.f.load ?_)
 refine (HVF.out _).mono ?_
 rintro o w1 ⟨rfl,hb1⟩;have F1:=hidG (F0.out.below hb1)
 have HB1:=hidG (HBV.out.trans (hb1.mono HBV.out.size))
 clear hb1;clear F0 HBV HVF;have HRL:Hid (subHo H t F=if vB F.e F.i F.r F.d F.l.length=false then pH H (ev3 5 t 2) else if tagIx H.bx t<H.bx.length then pH H (ev3 5 t 3) else if H.st=1000000 then pH H (ev3 5 t 4) else if freeIx H.bx<H.bx.length then { H with bx:=H.bx.set (freeIx H.bx) ⟨1,t,H.st,F.e,F.i,F.r,F.d,F.l⟩,st:=H.st+1 } else pH H (ev3 4 t 0)):=by show _=_;unfold subHo;rw[if_neg (by have:=HT.out;omega)]
 generalize vB F.e F.i F.r F.d F.l.length=vb at *;cases vb
 case false=>
  have HRK:=hidG (HRL.out.trans (if_pos rfl))
  clear HRL;go_wp2_with (refine fw.ld F1.out ?_)
  refine (say_G F1.out.g 5 t 2 HN.out.1 HN.out.2).mono ?_
  rintro o w9 ⟨s1,κ1,rfl,G1⟩;have F9:=hidG (F1.out.call G1.out)
  clear F1 G1;go_wp2_with (refine fw.rt F9.out ?_;intro w8 b8 G8)
  refine bC Tryz.results166 (lv39 b8) ?_
  rw[HRK.out]
  exact⟨s1,κ1,rfl,G8⟩
 case true=>
 rw[if_neg (by decide)] at HRL
 go_wp2_with (refine fw.ld F1.out ?_)
 refine (l3find_any w1 H s t F1.out.g.is.bx hnn).mono ?_
 rintro o w2 ⟨r,rfl,hr,hb2⟩;have hR:=hr.tag
 have F2:=hidG (F1.out.below hb2)
 have HB2:=hidG (HB1.out.trans (hb2.mono HB1.out.size))
 clear F1 HB1 hr hb2;rcases hR with⟨rfl,hno⟩|⟨rfl,hk⟩
 case inr=>
  have HRK:=hidG (HRL.out.trans (if_pos hk))
  clear HRL hk;go_wp2_with (refine fw.ld F2.out ?_)
  refine (say_G F2.out.g 5 t 3 HN.out.1 HN.out.2).mono ?_
  rintro o w9 ⟨s1,κ1,rfl,G1⟩;have F9:=hidG (F2.out.call G1.out)
  clear F2 G1;go_wp2_with (refine fw.rt F9.out ?_;intro w8 b8 G8)
  refine bC Tryz.results166 (lv39 b8) ?_
  rw[HRK.out]
  exact⟨s1,κ1,rfl,G8⟩
 case inl=>
 rw[if_neg hno] at HRL
 have x9:=F2.out.p.cell 9 _ rfl
 by_cases hst1:H.st=1000000
 ·have HRK:=hidG (HRL.out.trans (if_pos hst1))
  have ds:(H.st == 1000000)=true:=by simpa using hst1
  clear HRL hst1;go_wp2_with (refine fw.ld F2.out ?_)
  refine (say_G F2.out.g 5 t 4 HN.out.1 HN.out.2).mono ?_
  rintro o w9 ⟨s1,κ1,rfl,G1⟩;have F9:=hidG (F2.out.call G1.out)
  clear F2 G1;go_wp2_with (refine fw.rt F9.out ?_;intro w8 b8 G8)
  refine bC Tryz.results166 (lv39 b8) ?_
  rw[HRK.out]
  exact⟨s1,κ1,rfl,G8⟩
 rw[if_neg hst1] at HRL
 have ds:(H.st == 1000000)=false:=by simpa using hst1
 have HSL:Hid (0≤H.st∧H.st<1000000):=by show _∧_;omega
 have hwr:IntKind.i64.wrap (H.st+1)=H.st+1:=by rw[IntKind.wrap_i64];omega
 clear hst hst1;obtain⟨gb,hs0,e2,kb,hx,hxc⟩:=F2.out.g.x
 have x5:w2.cell? ⟨w.heap.size,5,none⟩=some (sL (some ⟨gb,0,none⟩) s.n2 s.k2):=by rw[← e2];exact F2.out.p.cell 5 _ (by unfold hoL;rfl)
 have hcp:=hx.cap
 have HX:=hidG hx
 have HLN:=hidG hx.len
 have HE:=hidG (And.intro e2 (F2.out.g.sm gb (by omega)))
 clear hx e2 kb hxc hno;go_wp2_with fail;go_loopw [7] (fun i wr=>∃ k:Nat,k≤s.n2∧i = I J (k:Int)∧(∀ j (hj:j<H.bx.length),j<k→H.bx[j].x≠0)∧wr=w2) (fun i _=>s.n2-(intOf i).toNat)
 case atStart=>exact⟨0,nZ _,rfl,fun j hj h=>absurd h (nN _),rfl⟩
 case round=>
  obtain⟨k,hk,rfl,hdone,hw⟩:=hrel
  have hw:=hw.symm
  subst hw;have HDN:=hidG hdone
  clear hdone;by_cases hlt:k<s.n2
  ·have hkl:k<H.bx.length:=by have:=HLN.out;omega
   have HKK:=hidG hkl
   have y0:w2.cell? ⟨gb,k*8,none⟩=some (I J H.bx[k].x):=HX.out.rng k hkl 0 _ rfl
   by_cases hx0:H.bx[k].x=0
   ·rw[hx0] at y0
    have HRK:Hid (subHo H t F = { H with bx:=H.bx.set k ⟨1,t,H.st,F.e,F.i,F.r,F.d,F.l⟩,st:=H.st+1 }):=by
     have e:freeIx H.bx=k:=by
      unfold freeIx
      rw[List.findIdx_eq hkl]
      exact⟨by simp only[beq_iff_eq];exact hx0,fun j hj=>by simpa using HDN.out j (by omega) hj⟩
     show _=_
     rw[HRL.out,e,if_pos hkl]
    clear hkl;go_wp2_with fail;refine wp_region_held (S:=fun X=>blk X w.heap.size (hoL H s) 39∧blk X (w.heap.size+1) [bO F.e,I .u32 (F.i:Int),bO F.r,I J F.d,sL fa fm fc] 55) (by kernel_rfl) ?_
    have F3:=hidG (F2.out.below (bW _ _).drew)
    have HFV:Hid (iB (World.drew w2) fa fm fc F.l):=HFD.out.below HB2.out.drew
    change wpAnyH Tp _ _ _ _ _ _ _ (World.drew w2)
    have hz:(World.drew w2).heap.size=w2.heap.size:=rfl
    generalize World.drew w2=v0 at *;have hS:blk v0 w.heap.size (hoL H s) 39∧blk v0 (w.heap.size+1) [bO F.e,I .u32 (F.i:Int),bO F.r,I J F.d,sL fa fm fc] 55:=⟨F3.out.p,F3.out.f⟩
    clear x5 x9 y0;refine tk 0 ?_
    refine tk 1 ?_ (hy:=fun W hW=>by (have x5:=hW.1.cell 5 _ rfl;rw[HE.out.1] at x5;go_simp;try rfl))
    refine tk 2 ?_
    refine tk 3 ?_
    refine tk 4 ?_
    refine tk 5 ?_ (hy:=fun W hW=>by (have x9:=hW.1.cell 9 _ rfl;go_simp;try rfl))
    refine wU 6 (.agg [bO F.e,I .u32 (F.i:Int),bO F.r,I J F.d,sL fa fm fc].toArray) rfl (yieldsIf_load_mid (by rfl) 55 _ rfl (w.heap.size+1) 0 rfl [bO F.e,I .u32 (F.i:Int),bO F.r,I J F.d,sL fa fm fc] _ (fun X h=>h.2.load) Tryz.underlying55 rfl sz93) hS ?_
    simp only[aZ];refine al 7 fun K2 hK2=>?_
    go_simp;refine (l1copyFrame_any v0 F.e F.i F.r F.d fa fm fc F.l HFV.out hfm).mono ?_
    rintro o v1 ⟨gd,kd,rfl,⟨q1,q2,q3,q4⟩,hb1⟩;have F4:=hidG (F3.out.below hb1)
    have HD1:Hid (v0.heap.size≤gd∧gd<v1.heap.size∧iB v1 (some ⟨gd,0,none⟩) fm kd F.l):=⟨q1,q2,q3.now⟩
    have F5:Hid (fw3 w κ [bO F.e,I .u32 (F.i:Int),bO F.r,I J F.d,sL fa fm fc] (fun x=>if x=gd then 2 else κ x) H s (hoL H s) v1):=by
     have h1:=F3.out.p.lt
     have h2:=F3.out.r.lt
     have h3:=F3.out.f.lt
     exact F4.out.col q2 (by omega) (F3.out.g.no q1) 2 ⟨by omega,by omega,by omega⟩
    clear q1 q2 q3 q4 hb1 F3 F4;go_wp2_with fail;refine hK2.out _ _ ⟨F5.out.p,F5.out.f⟩ (fun hS2=>?_)
    clear hK2 K2 hS;have hS:=hS2
    clear hS2;refine tk 8 ?_
    refine tk 9 ?_
    refine al 10 fun K2 hK2=>?_
    rw[if_pos (by rfl)]
    have hgd:gd≠gb:=by have:=HD1.out.1;have:=HE.out.2;omega
    have F6:=hidG (F5.out.call (F5.out.g.putX HE.out.1 HKK.out ⟨1,t,H.st,F.e,F.i,F.r,F.d,F.l⟩ (some ⟨gd,0,none⟩,fm,kd) HD1.out.2.2 (Or.inr ⟨gd,rfl,HD1.out.2.1,if_pos rfl,hgd⟩)))
    obtain⟨gb',hs5,e5,kb5,hx5,_⟩:=F5.out.g.x
    obtain rfl:gb'=gb:=by rw[HE.out.1] at e5;cases e5;rfl
    refine wp_store_mid 166 _ _ rfl gb' (k*8) [I J 1,I J t,I J H.st,bO F.e,I .u32 (F.i:Int),bO F.r,I J F.d,sL (some ⟨gd,0,none⟩) fm kd].toArray rfl rfl (hx5.there k HKK.out) sz95 (one8 _ _ _ _ _ _ _ _ _ _) ?_
    refine hK2.out _ _ ⟨F6.out.p,F6.out.f⟩ (fun _=>?_)
    clear hK2 K2 hS hx5 e5 kb5;refine wpAnyH_done (by kernel_rfl) ?_ _
    simp only[Act.put]
    have F6:Hid (fw3 w κ [bO F.e,I .u32 (F.i:Int),bO F.r,I J F.d,sL fa fm fc] (fun x=>if x=gd then 2 else κ x) { H with bx:=H.bx.set k ⟨1,t,H.st,F.e,F.i,F.r,F.d,F.l⟩ } s (hoL H s) (v1.setCells gb' (k*8) [I J 1,I J t,I J H.st,bO F.e,I .u32 (F.i:Int),bO F.r,I J F.d,sL (some ⟨gd,0,none⟩) fm kd])):=F6
    generalize v1.setCells gb' (k*8) [I J 1,I J t,I J H.st,bO F.e,I .u32 (F.i:Int),bO F.r,I J F.d,sL (some ⟨gd,0,none⟩) fm kd]=v2 at *;have z9:=F6.out.p.cell 9 _ rfl
    have f9:=F6.out.p.free 9
    have F7:Hid (fw3 w κ [bO F.e,I .u32 (F.i:Int),bO F.r,I J F.d,sL fa fm fc] (fun x=>if x=gd then 2 else κ x) { H with bx:=H.bx.set k ⟨1,t,H.st,F.e,F.i,F.r,F.d,F.l⟩,st:=H.st+1 } s (hoL { H with bx:=H.bx.set k ⟨1,t,H.st,F.e,F.i,F.r,F.d,F.l⟩,st:=H.st+1 } s) (v2.setCell ⟨w.heap.size,9,none⟩ (I J (H.st+1)))):=by
     have q:=F6.out.set 9 (I J (H.st+1))
     exact⟨q.p,q.r,q.f,⟨q.g.f,q.g.x,q.g.r,q.g.q,q.g.sm⟩,q.m,q.z⟩
    clear F6 F5;go_wp2_with (first | (refine fw.ld F7.out ?_) | (refine fw.rt F7.out ?_;intro w8 b8 G8))
    refine bC Tryz.results166 (lv39 b8) ?_
    rw[HRK.out]
    exact⟨s,_,rfl,G8⟩
   ·obtain⟨u,hu⟩ : ∃ u,H.bx[k].x=u:=⟨_,rfl⟩
    have HXN:=hidG hx0
    rw[hu] at y0 hx0
    have hx0':(u == 0)=false:=by simpa using hx0
    clear hu hx0 hkl;go_wp2_with fail;go_roundw
    case rel=>
     refine⟨k+1,by omega,by go_num,fun j hj hjk=>?_,by trivial⟩
     by_cases e:j=k
     ·subst e;exact HXN.out
     ·exact HDN.out j hj (by omega)
    case measure=>simp[intOf];omega
  ·have HRK:Hid (subHo H t F=pH H (ev3 4 t 0)):=by
    show _=_
    rw[HRL.out,if_neg]
    intro hc;have e:(fun b:R8=>b.x == 0) (H.bx[freeIx H.bx])=true:=List.findIdx_getElem (xs:=H.bx) (p:=fun b:R8=>b.x == 0) (w:=hc)
    exact HDN.out _ hc (by have:=HLN.out;omega) (by simpa using e)
   go_wp2_with (refine fw.ld F2.out ?_)
   refine (say_G F2.out.g 4 t 0 HN.out.1 HN.out.2).mono ?_
   rintro o w9 ⟨s1,κ1,rfl,G1⟩;have F9:=hidG (F2.out.call G1.out)
   clear F2 G1;go_wp2_with (refine fw.rt F9.out ?_;intro w8 b8 G8)
   refine bC Tryz.results166 (lv39 b8) ?_
   rw[HRK.out]
   exact⟨s1,κ1,rfl,G8⟩
variable {κ κ' κ0 : Nat → Nat} {H : Ho} {s : Sl} {w W W' : World} {p r q gq off : Nat} {FL L : List Value} {T : TypeId} {f : R5} {rs : List R5}
theorem hG.tail (h:hG κ H s W) (e3:s.a3=some ⟨gq,off,none⟩) (hf:H.ff=f :: rs) {o' k':Nat} (hc:(s.k3=1∧o'=off∧k'=0)∨(s.k3≠1∧o'=off+5∧k'=s.k3-1)):hG κ (fHo H rs) (fSl s gq o' rs.length k') W:=by
 refine⟨h.f,h.x,?_,h.q,h.sm⟩
 obtain⟨gq',off',hs,e,hk,h1,h2,h3⟩:=h.r
 rw[e3] at e
 cases e
 rw[hf] at h2 h3
 have hl:=h2.len
 have hcp:=h2.cap
 simp only[List.length_cons] at hl
 rcases hc with⟨c1,rfl,rfl⟩|⟨c1,rfl,rfl⟩
 ·refine⟨gq,o',fun j=>hs (j+1),rfl,hk,h1.le (by show o'+0*5≤_;omega),?_,fun j b hj hb=>h3 (j+1) b (by simpa using hj) hb⟩
  rw[c1] at h2
  have:=h2.tail1
  rw[hl] at this
  exact this
 ·refine⟨gq,off+5,fun j=>hs (j+1),rfl,hk,h1.le (by show off+5+(s.k3-1)*5≤_;omega),?_,fun j b hj hb=>h3 (j+1) b (by simpa using hj) hb⟩
  have:=h2.tail
  rw[hl] at this
  exact this
theorem fw.tl (h:fw w κ0 p r q FL T κ H s (hoL H s) W) (e3:s.a3=some ⟨gq,off,none⟩) (hf:H.ff=f :: rs) {o' k':Nat} (hc:(s.k3=1∧o'=off∧k'=0)∨(s.k3≠1∧o'=off+5∧k'=s.k3-1)):fw w κ0 p r q FL T κ (fHo H rs) (fSl s gq o' rs.length k') (hoL (fHo H rs) (fSl s gq o' rs.length k')) (W.setCell ⟨p,6,none⟩ (sL (some ⟨gq,o',none⟩) rs.length k')):=by
 have q:=h.set 6 (sL (some ⟨gq,o',none⟩) rs.length k')
 exact⟨q.p,q.r,q.f,q.g.tail e3 hf hc,q.m,q.z⟩
theorem hG.first (h:hG κ H s W) (hf:H.ff=f :: rs):∃ gq off ao m c,s.a3=some ⟨gq,off,none⟩∧κ gq=3∧s.n3=rs.length+1∧rs.length+1≤s.k3∧W.rangeAt gq off [bO f.e,I .u32 (f.i:Int),bO f.r,I J f.d,sL ao m c]∧iB W ao m c f.l:=by
 obtain⟨gq,off,hs,e,hk,h1,h2,h3⟩:=h.r
 rw[hf] at h2 h3
 have hl:=h2.len
 have hcp:=h2.cap
 simp only[List.length_cons] at hl
 have q1:=h2.rng 0 (by simp)
 have q2:=(h2.dat 0 (by simp)).1
 simp only[aE,Nat.zero_mul,Nat.add_zero] at q1 q2
 exact⟨gq,off,(hs 0).1,(hs 0).2.1,(hs 0).2.2,e,hk,hl,by omega,q1,q2⟩
theorem fetch_G (h:hG κ H s w) (hn:H.qu.length≤1000) (hlo:0≤H.lo∧H.lo≤100000) (hsm:∀ j (h:j<H.ff.length),H.ff[j].l.length≤1048576) :
  Calls Tp 202 #[aG (hoL H s).toArray] w (hA w κ (fetHo H)):=by
 have F0:Hid _:=fw.new2 h
 have HN:Hid (H.qu.length≤1000∧0≤H.lo∧H.lo≤100000):=⟨hn,hlo⟩
 have HSM:=hidG hsm
 clear h hn hlo hsm;obtain⟨L,hL⟩ : ∃ L,H.ff=L:=⟨_,rfl⟩
 have HFL:=hidG hL
 clear hL;go_enter Tryz.func202,Tryz.ntmps202
 go_upto_region 1 with fail
 generalize hV:World.alloc (World.alloc w _) _=v at *;clear hV;have F0:Hid (fw2 w κ κ H s (hoL H s) v):=F0
 cases L with
 | nil=>
  have HRL:Hid (fetHo H=pH H (ev3 12 0 0)):=by show _=_;unfold fetHo;rw[HFL.out]
  obtain⟨gq,off,hs,e,_⟩:=F0.out.g.r
  have x6:v.cell? ⟨w.heap.size,6,none⟩=some (sL (some ⟨gq,off,none⟩) 0 s.k3):=by
   have hz:s.n3=0:=by have:=F0.out.g.n3;rw[HFL.out] at this;exact this
   rw[← e,← hz]
   exact F0.out.p.cell 6 _ (by unfold hoL;rfl)
  clear e;go_wp2_with (refine fw.ld F0.out ?_)
  refine (say_G F0.out.g 12 0 0 HN.out.1 HN.out.2).mono ?_
  rintro o w9 ⟨s1,κ1,rfl,G1⟩;have F9:=hidG (F0.out.call G1.out)
  clear F0 G1;go_wp2_with (refine fw.rt F9.out ?_;intro w8 b8 G8)
  refine bC Tryz.results202 (lv39 b8) ?_
  rw[HRL.out]
  exact⟨s1,κ1,rfl,G8⟩
 | cons f rs=>
  have HRL:Hid (fetHo H=fHo (pH H (evF 12 1 0 f)) rs):=by show _=_;unfold fetHo;rw[HFL.out]
  obtain⟨gq,off,ao,m,c,e3,_,hn3,_,hrg,hby⟩:=F0.out.g.first HFL.out
  have x6:v.cell? ⟨w.heap.size,6,none⟩=some (sL (some ⟨gq,off,none⟩) (rs.length+1) s.k3):=by rw[← e3,← hn3];exact F0.out.p.cell 6 _ (by unfold hoL;rfl)
  have HM:Hid (m≤1048576):=by
   have h1:=HSM.out 0 (by rw[HFL.out];simp)
   have h2:=hby.len
   have e:H.ff[0]'(by rw[HFL.out];simp)=f:=by simp[HFL.out]
   rw[e] at h1
   show m≤_
   omega
  have HRG:=hidG hrg
  have HDT:=hidG hby
  have hne:(((rs.length+1:Nat):Int) == 0)=false:=by simp;omega
  clear hrg hby e3 hn3 HSM;obtain⟨fE,fI,fR,fD,fL⟩:=f
  simp only[] at HRG HDT
  go_upto_region 3 with fail
  refine wp_region_still_tail 5 (by kernel_rfl) (by kernel_rfl) ?_
  change wpStill Tp _ (World.drew v) (fun a'=>wpList Tp _ _ _ a' (World.drew v)) _ _
  have F1:=hidG (F0.out.below (bW _ _).drew)
  have HD1:Hid (iB (World.drew v) ao m c fL):=HDT.out.below (bW _ _).drew
  have HR1:Hid ((World.drew v).rangeAt gq off [bO fE,I .u32 (fI:Int),bO fR,I J fD,sL ao m c]):=HRG.out
  have x6:(World.drew v).cell? ⟨w.heap.size,6,none⟩=some (sL (some ⟨gq,off,none⟩) (rs.length+1) s.k3):=x6
  clear HRG HDT F0;generalize World.drew v=v0 at *;simp only[List.take_succ_cons,List.take_zero,List.drop_succ_cons,List.drop_zero]
  refine wpStill_load_mid (by rfl) 39 _ rfl w.heap.size 0 rfl (hoL H s) _ F1.out.p.load Tryz.underlying39 rfl (sz41L H s) ?_
  still_step
  still_step
  still_step
  refine wpStill_load_mid (by rfl) 55 _ rfl gq off rfl [bO fE,I .u32 (fI:Int),bO fR,I J fD,sL ao m c] _ HR1.out Tryz.underlying55 rfl sz93 ?_
  refine wpStill_nil ?_
  go_wp2_with fail;refine (post_G F1.out.g ⟨12,1,0,fE,fI,fR,fD,fL⟩ ao m c HN.out.1 HN.out.2 HD1.out HM.out).mono ?_
  rintro o w1 ⟨s1,κ1,rfl,G1⟩;have F2:=hidG (F1.out.call G1.out)
  clear F1 G1 x6 HR1 HD1;go_upto_region 4 with (refine fw.sv F2.out ?_;intro w2 F3)
  clear F2;obtain⟨gq',off',_,_,_,e3,_,hn3,hk3,_,_⟩:=F3.out.g.first HFL.out
  have x6:w2.cell? ⟨w.heap.size,6,none⟩=some (sL (some ⟨gq',off',none⟩) (rs.length+1) s1.k3):=by rw[← e3,← hn3];exact F3.out.p.cell 6 _ (by unfold hoL;rfl)
  have f6:=F3.out.p.free 6
  have HE:=hidG e3
  clear e3 hn3;by_cases hk1:s1.k3=1
  ·have F4:=hidG (F3.out.tl HE.out HFL.out (Or.inl ⟨hk1,rfl,rfl⟩))
   rw[hk1] at x6
   go_wp2_with (first | (refine fw.ld F4.out ?_) | (refine fw.rt F4.out ?_;intro w8 b8 G8))
   refine bC Tryz.results202 (lv39 b8) ?_
   rw[HRL.out]
   exact⟨_,κ1,rfl,G8⟩
  ·have F4:=hidG (F3.out.tl HE.out HFL.out (Or.inr ⟨hk1,rfl,rfl⟩))
   have hk2:(s1.k3 == 1)=false:=by simpa using hk1
   go_wp2_with (first | (refine fw.ld F4.out ?_) | (refine fw.rt F4.out ?_;intro w8 b8 G8))
   refine bC Tryz.results202 (lv39 b8) ?_
   rw[HRL.out]
   exact⟨_,κ1,rfl,G8⟩
variable {κ κ' κ0 : Nat → Nat} {H : Ho} {s : Sl} {w W W' : World} {p r q gq off : Nat} {FL L : List Value} {T : TypeId} {f : R5} {rs : List R5}
theorem mvH.bytes {g m c:Nat} {l:List Nat} (h:mvH κ W κ' W') (hb:iB W (some ⟨g,0,none⟩) m c l) (hg:g<W.heap.size) (h0:κ g=0):iB W' (some ⟨g,0,none⟩) m c l:=hb.other (h.k g hg h0)
theorem ffR.withSp {g n k:Nat} {L:List R5} {hs:Nat→Hd} {T:Nat} (h:ffR W g off n k 0 L hs T) (hr:rowF W g (off+k*5)):ffR W g off n k k L hs T:=
 ⟨h.len,h.cap,h.rng,fun t ht=>by obtain⟨⟨v,hv⟩,hf⟩:=hr (off+t) (by omega);rw[hv];exact⟨rfl,hf⟩,h.dat,h.hi⟩
theorem hG.room (h:hG κ H s W) (e3:s.a3=some ⟨gq,off,none⟩) (F:R5) {gd fm kd:Nat} (hb:iB W (some ⟨gd,0,none⟩) fm kd F.l) (hgd:gd<W.heap.size∧κ gd=3∧gd≠gq) (hr:s.n3+1≤s.k3) :
  hG κ (fHo H (H.ff++[F])) (fSl s gq off (s.n3+1) s.k3) (W.setCells gq (off+s.n3*5) (x5 (F,(some ⟨gd,0,none⟩,fm,kd))))∧mvH κ W κ (W.setCells gq (off+s.n3*5) (x5 (F,(some ⟨gd,0,none⟩,fm,kd)))):=by
 obtain⟨gq',off',hs,e,hk,h1,h2,h3⟩:=h.r
 rw[e3] at e
 cases e
 have hz:W.heap.size≤(W.setCells gq (off+s.n3*5) (x5 (F,(some ⟨gd,0,none⟩,fm,kd)))).heap.size:=by rw[sZ];exact nR _
 have ho:∀ d,d≠3→∀ x,κ x=d→κ x=d∧(W.setCells gq (off+s.n3*5) (x5 (F,(some ⟨gd,0,none⟩,fm,kd)))).heap[x]?=W.heap[x]?:=fun d hd' x hx=>⟨hx,sO _ x (by rintro rfl;omega) _ _ _⟩
 have hR:=(h2.withSp h1).room rfl hr F (some ⟨gd,0,none⟩,fm,kd) hb W.heap.size (nR _) ⟨gd,rfl,hgd.2.2,hgd.1⟩
 refine⟨⟨h.f_ (ho 1 (by omega)),h.x_ (ho 2 (by omega)) hz,⟨gq,off,_,rfl,hk,by rw[setCells_row];exact h1.setRow _ _ _ _,by rw[sZ];exact hR,fun j b hj hb'=>?_⟩,h.q_ (ho 4 (by omega)) hz,fun x hx=>by rw[sZ];exact h.sm x hx⟩,(mvH.refl κ W).cells (Or.inr (by omega)) _ _⟩
 by_cases hl:j<H.ff.length
 ·rw[if_pos hl] at hb'
  exact h3 j b hl hb'
 ·rw[if_neg hl] at hb'
  cases hb'
  exact hgd.2.1
theorem hG.grow (h:hG κ H s W) (e3:s.a3=some ⟨gq,off,none⟩) (F:R5) {gd fm kd:Nat} (hb:iB W (some ⟨gd,0,none⟩) fm kd F.l) (hgd:gd<W.heap.size∧κ gd=3∧gd≠gq):∃ hs,(∀ j u,(ffC H.ff hs)[j]?=some u→W.cell? ⟨gq,off+j,none⟩=some u)∧∀ v' w',w'.ownsRow W.heap.size 55 5 v' (s.n3+1) (ffC H.ff hs++x5 (F,(some ⟨gd,0,none⟩,fm,kd)))→W.grownBy w' none→∃ g' k',v' = sL (some ⟨g',0,none⟩) (s.n3+1) k'∧hG (fun x=>if x=g' then 3 else κ x) (fHo H (H.ff++[F])) (fSl s g' 0 (s.n3+1) k') w'∧mvH κ W (fun x=>if x=g' then 3 else κ x) w':=by
 obtain⟨gq',off',hs,e,hk,h1,h2,h3⟩:=h.r
 rw[e3] at e
 cases e
 refine⟨hs,h2.olds,fun v' w' hown hg=>?_⟩
 obtain⟨g',k',rfl,hg',hR⟩:=h2.grow F (some ⟨gd,0,none⟩,fm,kd) hb (nR _) ⟨gd,rfl,hgd.1⟩ v' hown hg
 have old:∀ x,x<W.heap.size→w'.heap[x]?=W.heap[x]?:=fun x hx=>hg.block x hx (by simp)
 have hk2:∀ d,d≠0→∀ x,κ x=d→(if x=g' then 3 else κ x)=d∧w'.heap[x]?=W.heap[x]?:=fun d hd x hx=>by
  have hxl:=h.sm x (by omega)
  rw[if_neg (by omega)]
  exact⟨hx,old x hxl⟩
 have hgz:=hg.size
 refine⟨g',k',rfl,⟨h.f_ (hk2 1 (by omega)),h.x_ (hk2 2 (by omega)) hgz,⟨g',0,_,rfl,if_pos rfl,by rw[Nat.zero_add];exact ownsRow_F hown,hR,fun j b hj hb'=>?_⟩,h.q_ (hk2 4 (by omega)) hgz,fun x hx=>?_⟩,⟨hgz,fun x hx=>if_neg (by omega),fun x hx _=>old x hx,hg.os,hg.tape,hg.output⟩⟩
 ·by_cases hl:j<H.ff.length
  ·rw[if_pos hl] at hb'
   exact (hk2 3 (by omega) b (h3 j b hl hb')).1
  ·rw[if_neg hl] at hb'
   cases hb'
   exact (hk2 3 (by omega) gd hgd.2.1).1
 ·by_cases e:x=g'
  ·rw[e];exact hR.hi
  ·rw[if_neg e] at hx
   have:=h.sm x hx
   omega
theorem wp_appH {o:Oper} {a:Act} {K:Act→World→Prop} {Q:Exit→Act→World→Prop} (h:hG κ H s W) (e3:s.a3=some ⟨gq,off,none⟩) (F:R5) {gd fm kd:Nat} (hb:iB W (some ⟨gd,0,none⟩) fm kd F.l) (hgd:gd<W.heap.size∧κ gd=3∧gd≠gq) (sx x:Operand) (ib:Nat) (hib:W.heap[ib]?=some (.cells [bO F.e,I .u32 (F.i:Int),bO F.r,I J F.d,sL (some ⟨gd,0,none⟩) fm kd].toArray 55)) (hn:s.n3≤100000)
  (hK:∀ g' off' k' κ' W',Hid (hG κ' (fHo H (H.ff++[F])) (fSl s g' off' (s.n3+1) k') W'∧mvH κ W κ' W')→K (a.put o.dst (sL (some ⟨g',off',none⟩) (s.n3+1) k')) W')
  (ho:o.op = .call { callee:=.builtin .append,args:=#[sx,x],argTypes:=#[36,36] }:=by rfl) (hs:a.eval sx = sL (some ⟨gq,off,none⟩) s.n3 s.k3:=by rfl) (hx:a.eval x = sL (some ⟨ib,0,none⟩) 1 1:=by rfl):o.wp Tp a W K Q:=by
 obtain⟨hs0,hol,hgr⟩:=h.grow e3 F hb hgd
 refine wp_append5 sx x ho gq off s.n3 s.k3 (ffC H.ff hs0) hs (by rw[ffC_len,h.n3]) hol ib [bO F.e,I .u32 (F.i:Int),bO F.r,I J F.d,sL (some ⟨gd,0,none⟩) fm kd] hx rfl hib (by simp[Value.oneCell']) hn (fun hr j hj=>?_) (fun hr=>?_) (fun hr v' w' hown hg=>?_)
 ·obtain⟨gq',off',hs,e,hk,h1,h2,h3⟩:=h.r
  rw[e3] at e
  cases e
  obtain⟨⟨v,hv⟩,hf⟩:=h1 (off+s.n3*5+j) (by simp at hj;omega)
  rw[hv]
  exact⟨rfl,hf⟩
 ·exact hK gq off s.k3 κ _ (h.room e3 F hb hgd hr)
 ·obtain⟨g',k',rfl,hR⟩:=hgr v' w' hown hg
  exact hK g' 0 k' _ w' hR
theorem loP_in {c3:Int} {qu:List R8} {lo:Int} (h:0≤lo∧lo≤100000):0≤loP c3 qu lo∧loP c3 qu lo≤100000:=by
 unfold loP
 split
 ·exact h
 ·split <;> omega
theorem quP_le (c3:Int) (qu:List R8) (ev:R8):(quP c3 qu ev).length≤qu.length+1:=by
 unfold quP
 split <;> simp
theorem deliver_G (h:hG κ H s w) (F:R5) (fg fm fc:Nat) (hf:iB w (some ⟨fg,0,none⟩) fm fc F.l) (hfg:fg<w.heap.size∧κ fg=0) (hfm:fm≤1048576) (hn1:H.fs.length≤1000) (hn3:H.ff.length≤1000) (hn:H.qu.length≤900) (hlo:0≤H.lo∧H.lo≤100000) (hsm:∀ j (h:j<H.ff.length),H.ff[j].l.length≤1048576) (hc1:1≤H.c1) :
  Calls Tp 110 #[aG (hoL H s).toArray,frV F.e F.i F.r F.d (some ⟨fg,0,none⟩) fm fc] w (hA w κ (delHo H F)):=by
 have F0:Hid _:=fw.new3 h [bO F.e,I .u32 (F.i:Int),bO F.r,I J F.d,sL (some ⟨fg,0,none⟩) fm fc]
 have HN:Hid (H.qu.length≤900∧0≤H.lo∧H.lo≤100000):=⟨hn,hlo⟩
 have HFD:Hid (∀ κ1 W,mvH κ w κ1 W→iB W (some ⟨fg,0,none⟩) fm fc F.l):=fun κ1 W hW=>hW.bytes hf hfg.1 hfg.2
 have HSM:=hidG hsm
 obtain⟨va,eva⟩ : ∃ b,vB F.e F.i F.r F.d F.l.length=b:=⟨_,rfl⟩
 obtain⟨pa,epa⟩ : ∃ b,passB H.fs F=b:=⟨_,rfl⟩
 have HD:Hid (delHo H F=if (va && pa)=true then (if (H.ff.length:Int)=H.c1 then (if H.c2=0 then pH H (evF 3 0 0 F) else match H.ff with | []=>H | f :: r=>pH (fHo (pH H (evF 3 0 0 f)) (r++[F])) (evF 2 0 0 F)) else pH (fHo H (H.ff++[F])) (evF 2 0 0 F)) else H):=by
  show _=_
  rw[← eva,← epa]
  unfold delHo
  simp only[Bool.and_eq_true]
  rfl
 have HVC:Hid (∀ W,Calls Tp 47 #[frV F.e F.i F.r F.d (some ⟨fg,0,none⟩) fm fc] W fun o w'=>o = rT (bO va)∧Below W.heap.size W w'):=fun W=>by
  have:=specValid_any W F.e F.i F.r F.d (some ⟨fg,0,none⟩) fm fc
  rw[hf.len,eva] at this
  rw[hf.len]
  exact this
 have HPC:Hid (∀ W,hG κ H s W→Calls Tp 155 #[sL s.a1 s.n1 s.k1,frV F.e F.i F.r F.d (some ⟨fg,0,none⟩) fm fc] W fun o w'=>o = rT (bO pa)∧Below W.heap.size W w'):=fun W hW=>by
  have:=l3passes_any W s.a1 s.n1 s.k1 H.fs F (some ⟨fg,0,none⟩) fm fc hW.is.fs (by rw[hW.is.fs.len];exact hn1)
  rw[epa] at this
  exact this
 have HL3:=hidG h.n3
 have HC1:Hid (1≤H.c1∧H.ff.length≤1000):=⟨hc1,hn3⟩
 clear h hn hlo hsm hf hfg eva epa hn1 hn3 hc1;go_enter Tryz.func110,Tryz.ntmps110
 go_upto_region 1 with fail
 generalize hV:World.alloc (World.alloc (World.alloc w _) _) _=v0 at *;clear hV;have F0:Hid (fw3 w κ [bO F.e,I .u32 (F.i:Int),bO F.r,I J F.d,sL (some ⟨fg,0,none⟩) fm fc] κ H s (hoL H s) v0):=F0
 go_cut [14] (fun x wx=>x = bO (!(va && pa))∧Hid (fw3 w κ [bO F.e,I .u32 (F.i:Int),bO F.r,I J F.d,sL (some ⟨fg,0,none⟩) fm fc] κ H s (hoL H s) wx))
 case first=>
  go_wp2_with (refine lq55 (cs:=[bO F.e,I .u32 (F.i:Int),bO F.r,I J F.d,sL (some ⟨fg,0,none⟩) fm fc]) F0.out.f.load ?_)
  refine (HVC.out _).mono ?_
  rintro o w1 ⟨rfl,hb1⟩;have F1:=hidG (F0.out.below hb1)
  clear hb1;cases va
  ·go_wp2_with fail;go_meet
   case rel=>exact⟨rfl,F1⟩
  ·have x4:w1.cell? ⟨w.heap.size,4,none⟩=some (sL s.a1 s.n1 s.k1):=F1.out.p.cell 4 _ rfl
   go_wp2_with (refine wpList_load_midG (by first | rfl | (simp[Region.wanted,yielded];done) | (simp[Region.wanted,yielded];omega)) 55 (.tmp 3) rfl (w.heap.size+1) 0 rfl [bO F.e,I .u32 (F.i:Int),bO F.r,I J F.d,sL (some ⟨fg,0,none⟩) fm fc] _ F1.out.f.load Tryz.underlying55 rfl sz93 ?_)
   refine (HPC.out _ F1.out.g).mono ?_
   rintro o w2 ⟨rfl,hb2⟩;have F2:=hidG (F1.out.below hb2)
   clear hb2;cases pa <;> (
    go_wp2_with fail;go_meet
    case rel=>exact⟨rfl,F2⟩)
 case rest=>
 obtain⟨rfl,F1⟩:=hcut
 obtain⟨vp,evp⟩ : ∃ b,(va && pa)=b:=⟨_,rfl⟩
 rw[evp] at HD
 rw[evp]
 clear HVC HPC F0 evp;cases vp
 ·have HDE:Hid (delHo H F=H):=by show _=_;rw[HD.out];rfl
  go_wp2_with (first | (refine fw.ld F1.out ?_) | (refine fw.rt F1.out ?_;intro w8 b8 G8))
  refine bC Tryz.results110 (lv39 b8) ?_
  rw[HDE.out]
  exact⟨s,κ,rfl,G8⟩
 have HD2:Hid (delHo H F=if (H.ff.length:Int)=H.c1 then (if H.c2=0 then pH H (evF 3 0 0 F) else match H.ff with | []=>H | f :: r=>pH (fHo (pH H (evF 3 0 0 f)) (r++[F])) (evF 2 0 0 F)) else pH (fHo H (H.ff++[F])) (evF 2 0 0 F)):=by show _=_;rw[HD.out];rfl
 clear HD;obtain⟨gq0,off0,hs0,e30,_⟩:=F1.out.g.r
 have x6:wc.cell? ⟨w.heap.size,6,none⟩=some (sL (some ⟨gq0,off0,none⟩) s.n3 s.k3):=by rw[← e30];exact F1.out.p.cell 6 _ (by unfold hoL;rfl)
 have x1:wc.cell? ⟨w.heap.size,1,none⟩=some (I J H.c1):=F1.out.p.cell 1 _ (by unfold hoL;rfl)
 have x2:wc.cell? ⟨w.heap.size,2,none⟩=some (I J H.c2):=F1.out.p.cell 2 _ (by unfold hoL;rfl)
 obtain⟨fu,efu⟩ : ∃ b,((s.n3:Int) == H.c1)=b:=⟨_,rfl⟩
 have HFU:Hid (((H.ff.length:Int)=H.c1)↔fu=true):=by show _↔_;rw[← HL3.out,← efu];simp
 obtain⟨b0,eb0⟩ : ∃ b,(H.c2 == 0)=b:=⟨_,rfl⟩
 have HB0:Hid ((H.c2=0)↔b0=true):=by show _↔_;rw[← eb0];simp
 clear e30;go_upto_if 22 with fail
 go_cut [] (fun wx=>∃ H1 s1 κ1,Hid (fw3 w κ [bO F.e,I .u32 (F.i:Int),bO F.r,I J F.d,sL (some ⟨fg,0,none⟩) fm fc] κ1 H1 s1 (hoL H1 s1) wx)∧Hid (delHo H F=pH (fHo H1 (H1.ff++[F])) (evF 2 0 0 F))∧Hid (H1.ff.length≤1000∧H1.qu.length≤1000∧0≤H1.lo∧H1.lo≤100000))
 case first=>
  cases fu
  ·have HDE:Hid (delHo H F=pH (fHo H (H.ff++[F])) (evF 2 0 0 F)):=by show _=_;rw[HD2.out,if_neg (fun e=>by have:=HFU.out.1 e;cases this)]
   go_wp2_with fail;go_meet
   case rel=>exact⟨H,s,κ,F1,HDE,HC1.out.2,by have:=HN.out.1;omega,HN.out.2⟩
  ·have hfu:=HFU.out.2 rfl
   cases b0
   ·obtain⟨fE,fI,fR,fD,fL,rs,hfr⟩ : ∃ fE fI fR fD fL r,H.ff=⟨fE,fI,fR,fD,fL⟩ :: r:=by
     cases hff:H.ff with
     | nil=>rw[hff] at hfu;have:=HC1.out;simp at hfu;omega
     | cons f r=>exact⟨f.e,f.i,f.r,f.d,f.l,r,rfl⟩
    have HFR:=hidG hfr
    have HDE:Hid (delHo H F=pH (fHo (fHo (pH H ⟨3,0,0,fE,fI,fR,fD,fL⟩) rs) ((fHo (pH H ⟨3,0,0,fE,fI,fR,fD,fL⟩) rs).ff++[F])) (evF 2 0 0 F)):=by
     show _=_
     rw[HD2.out,if_pos hfu,if_neg (fun e=>by have:=HB0.out.1 e;cases this),hfr]
    obtain⟨gq,off,ao,m,c,e3,_,hn3,_,hrg,hby⟩:=F1.out.g.first HFR.out
    have x6':wc.cell? ⟨w.heap.size,6,none⟩=some (sL (some ⟨gq,off,none⟩) (rs.length+1) s.k3):=by rw[← e3,← hn3];exact F1.out.p.cell 6 _ (by unfold hoL;rfl)
    have hM:m≤1048576:=by
     have h1:=HSM.out 0 (by rw[HFR.out];simp)
     have h2:m=fL.length:=hby.len
     have e:H.ff[0]'(by rw[HFR.out];simp)=⟨fE,fI,fR,fD,fL⟩:=by simp[HFR.out]
     rw[e] at h1
     have h4:fL.length≤1048576:=h1
     omega
    have HM:=hidG hM
    have HRG:=hidG hrg
    have HDT:=hidG hby
    clear hrg hby e3 hn3 HSM hfr HD2 hM;simp only[] at HRG HDT
    go_wp2_with fail;refine wp_region_still_tail 5 (by kernel_rfl) (by kernel_rfl) ?_
    change wpStill Tp _ (World.drew wc) (fun a'=>wpList Tp _ _ _ a' (World.drew wc)) _ _
    have F2:=hidG (F1.out.below (bW _ _).drew)
    have HD1:Hid (iB (World.drew wc) ao m c fL):=HDT.out.below (bW _ _).drew
    have HR1:Hid ((World.drew wc).rangeAt gq off [bO fE,I .u32 (fI:Int),bO fR,I J fD,sL ao m c]):=HRG.out
    have x6:(World.drew wc).cell? ⟨w.heap.size,6,none⟩=some (sL (some ⟨gq,off,none⟩) (rs.length+1) s.k3):=x6'
    clear HRG HDT F1 x6' x1 x2;generalize World.drew wc=v1 at *;simp only[List.take_succ_cons,List.take_zero,List.drop_succ_cons,List.drop_zero]
    refine wpStill_load_mid (by rfl) 39 _ rfl w.heap.size 0 rfl (hoL H s) _ F2.out.p.load Tryz.underlying39 rfl (sz41L H s) ?_
    still_step
    still_step
    still_step
    refine wpStill_load_mid (by rfl) 55 _ rfl gq off rfl [bO fE,I .u32 (fI:Int),bO fR,I J fD,sL ao m c] _ HR1.out Tryz.underlying55 rfl sz93 ?_
    refine wpStill_nil ?_
    go_wp2_with fail;refine (post_G F2.out.g ⟨3,0,0,fE,fI,fR,fD,fL⟩ ao m c (by have:=HN.out.1;omega) HN.out.2 HD1.out HM.out).mono ?_
    rintro o w1 ⟨s1,κ1,rfl,G1⟩;have F3:=hidG (F2.out.call G1.out)
    clear F2 G1 x6 HR1 HD1;have HNQ:Hid (rs.length≤1000∧(pH H ⟨3,0,0,fE,fI,fR,fD,fL⟩).qu.length≤1000∧0≤(pH H ⟨3,0,0,fE,fI,fR,fD,fL⟩).lo∧(pH H ⟨3,0,0,fE,fI,fR,fD,fL⟩).lo≤100000):=by
     have h2:=quP_le H.c3 H.qu ⟨3,0,0,fE,fI,fR,fD,fL⟩
     have h3:=HC1.out.2
     rw[HFR.out] at h3
     simp only[List.length_cons] at h3
     exact⟨by omega,nT h2 (by have:=HN.out.1;omega),loP_in HN.out.2⟩
    go_upto_region 7 with (refine fw.sv F3.out ?_;intro w2 F4)
    clear F3;obtain⟨gq',off',_,_,_,e3,_,hn3,hk3,_,_⟩:=F4.out.g.first HFR.out
    have x6:w2.cell? ⟨w.heap.size,6,none⟩=some (sL (some ⟨gq',off',none⟩) (rs.length+1) s1.k3):=by rw[← e3,← hn3];exact F4.out.p.cell 6 _ (by unfold hoL;rfl)
    have f6:=F4.out.p.free 6
    have HE:=hidG e3
    clear e3 hn3;by_cases hk1:s1.k3=1
    ·have F5:=hidG (F4.out.tl HE.out HFR.out (Or.inl ⟨hk1,rfl,rfl⟩))
     rw[hk1] at x6
     go_wp2_with fail;go_meet
     case rel=>exact⟨_,_,κ1,F5,HDE,HNQ.out⟩
    ·have F5:=hidG (F4.out.tl HE.out HFR.out (Or.inr ⟨hk1,rfl,rfl⟩))
     have hk2:(s1.k3 == 1)=false:=by simpa using hk1
     go_wp2_with fail;go_meet
     case rel=>exact⟨_,_,κ1,F5,HDE,HNQ.out⟩
   ·have HDE:Hid (delHo H F=pH H (evF 3 0 0 F)):=by show _=_;rw[HD2.out,if_pos hfu,if_pos (HB0.out.2 rfl)]
    clear HD2 hfu;go_wp2_with (first | (refine fw.ld F1.out ?_) | (refine lq55 (cs:=[bO F.e,I .u32 (F.i:Int),bO F.r,I J F.d,sL (some ⟨fg,0,none⟩) fm fc]) F1.out.f.load ?_))
    refine (post_G F1.out.g (evF 3 0 0 F) _ fm fc (by have:=HN.out.1;omega) HN.out.2 (HFD.out _ _ F1.out.m) hfm).mono ?_
    rintro o w9 ⟨s9,κ9,rfl,G9⟩;have F9:=hidG (F1.out.call G9.out)
    clear F1 G9;go_wp2_with (refine fw.rt F9.out ?_;intro w8 b8 G8)
    refine bC Tryz.results110 (lv39 b8) ?_
    rw[HDE.out]
    exact⟨s9,κ9,rfl,G8⟩
 case rest=>
 obtain⟨H1,s1,κ1,F2,HDE,HN1⟩:=hcut
 clear HD2 F1 x6 x1 x2 HFU HB0 efu eb0 HSM HC1 HL3 HN;go_upto_region 8 with fail
 go_cut [] (fun wx=>∃ s2 κ2,Hid (fw3 w κ [bO F.e,I .u32 (F.i:Int),bO F.r,I J F.d,sL (some ⟨fg,0,none⟩) fm fc] κ2 (fHo H1 (H1.ff++[F])) s2 (hoL (fHo H1 (H1.ff++[F])) s2) wx))
 case first=>
  obtain⟨gq,off,hs,e3,kq,_⟩:=F2.out.g.r
  have HE3:Hid (s1.a3=some ⟨gq,off,none⟩∧gq<wc.heap.size∧s1.n3≤100000):=⟨e3,F2.out.g.sm gq (by omega),by rw[F2.out.g.n3];have:=HN1.out.1;omega⟩
  have F3:=hidG (F2.out.below (bW _ _).drew)
  have x6:=F2.out.p.cell 6 _ (by unfold hoL;rfl)
  rw[e3] at x6
  have f0:=F2.out.f.cell 0 _ rfl
  have f1:=F2.out.f.cell 1 _ rfl
  have f2:=F2.out.f.cell 2 _ rfl
  have f3:=F2.out.f.cell 3 _ rfl
  have f4:=F2.out.f.cell 4 _ rfl
  clear e3 kq;go_region_law
   (first
    | (go_simp;go_at_call 132;refine (l1copyFrame_any wc.drew F.e F.i F.r F.d (some ⟨fg,0,none⟩) fm fc F.l (HFD.out _ _ F3.out.m) hfm).mono ?_;rintro o v1 ⟨gd,kd,rfl,⟨q1,q2,q3,q4⟩,hb1⟩;obtain⟨κ2,F4,hk2⟩ : ∃ κ2:Nat→Nat,Hid (fw3 w κ [bO F.e,I .u32 (F.i:Int),bO F.r,I J F.d,sL (some ⟨fg,0,none⟩) fm fc] κ2 H1 s1 (hoL H1 s1) v1)∧κ2 gd=3:=⟨_,(F3.out.below hb1).col q2 (nT F3.out.m.s q1) (F3.out.g.no q1) 3 ⟨by have:=F3.out.p.lt;omega,by have:=F3.out.r.lt;omega,by have:=F3.out.f.lt;omega⟩,if_pos rfl⟩;have F5:Hid (fw3 w κ [bO F.e,I .u32 (F.i:Int),bO F.r,I J F.d,sL (some ⟨fg,0,none⟩) fm fc] κ2 H1 s1 (hoL H1 s1) (v1.alloc (.cells #[bO F.e,I .u32 (F.i:Int),bO F.r,I J F.d,sL (some ⟨gd,0,none⟩) fm kd] 55))):=F4.out.below ((bW _ _).alloc (nR _) _);have HD1:Hid (iB (v1.alloc (.cells #[bO F.e,I .u32 (F.i:Int),bO F.r,I J F.d,sL (some ⟨gd,0,none⟩) fm kd] 55)) (some ⟨gd,0,none⟩) fm kd F.l∧gd<(v1.alloc (.cells #[bO F.e,I .u32 (F.i:Int),bO F.r,I J F.d,sL (some ⟨gd,0,none⟩) fm kd] 55)).heap.size∧κ2 gd=3∧gd≠gq):=⟨q3.now.below ((bW _ _).alloc (nR _) _),(by simp;omega),hk2,(by have:=HE3.out.2.1;have h0:wc.drew.heap.size=wc.heap.size:=rfl;omega)⟩;have HNB:Hid ((v1.alloc (.cells #[bO F.e,I .u32 (F.i:Int),bO F.r,I J F.d,sL (some ⟨gd,0,none⟩) fm kd] 55)).heap[v1.heap.size]?=some (.cells #[bO F.e,I .u32 (F.i:Int),bO F.r,I J F.d,sL (some ⟨gd,0,none⟩) fm kd] 55)):=heap_alloc_new v1 _;have y6:=F4.out.p.cell 6 _ rfl;have y7:=F5.out.p.cell 6 _ rfl;rw[HE3.out.1] at y6 y7;clear q1 q2 q3 q4 hb1 hk2;go_wp2_with fail)
    | (refine wp_appH F5.out.g HE3.out.1 F HD1.out.1 HD1.out.2 (.tmp 41) (.tmp 44) v1.heap.size HNB.out HE3.out.2.2 ?_;intro g' off' k' κ' w6 G6;have F6:=hidG (F5.out.call G6.out);have xq:=F6.out.p.cell 6 _ rfl;have fq:=F6.out.p.free 6;have F7:Hid (fw3 w κ [bO F.e,I .u32 (F.i:Int),bO F.r,I J F.d,sL (some ⟨fg,0,none⟩) fm fc] κ' (fHo H1 (H1.ff++[F])) (fSl s1 g' off' (s1.n3+1) k') (hoL (fHo H1 (H1.ff++[F])) (fSl s1 g' off' (s1.n3+1) k')) (w6.setCell ⟨w.heap.size,6,none⟩ (sL (some ⟨g',off',none⟩) (s1.n3+1) k'))):=F6.out.set 6 _))
  all_goals
   go_wp2_with fail;go_meet
   case rel=>exact⟨_,_,F7⟩
 case rest=>
 obtain⟨s2,κ2,F3⟩:=hcut
 clear F2;go_wp2_with (first | (refine fw.ld F3.out ?_) | (refine lq55 (cs:=[bO F.e,I .u32 (F.i:Int),bO F.r,I J F.d,sL (some ⟨fg,0,none⟩) fm fc]) F3.out.f.load ?_))
 refine (post_G F3.out.g (evF 2 0 0 F) _ fm fc HN1.out.2.1 HN1.out.2.2 (HFD.out _ _ F3.out.m) hfm).mono ?_
 rintro o w9 ⟨s9,κ9,rfl,G9⟩;have F9:=hidG (F3.out.call G9.out)
 clear F3 G9;go_wp2_with (refine fw.rt F9.out ?_;intro w8 b8 G8)
 refine bC Tryz.results110 (lv39 b8) ?_
 rw[HDE.out]
 exact⟨s9,κ9,rfl,G8⟩
structure bdH (H:Ho):Prop where
 b:1≤H.bx.length∧H.bx.length≤8
 f:H.fs.length≤16
 c:1≤H.c1∧H.c1≤16∧(H.ff.length:Int)≤H.c1
 q:(H.qu.length:Int)≤H.c3∧H.c3≤32
 lo:0≤H.lo∧H.lo≤100000
 st:0≤H.st∧H.st≤1000000
 d:(∀ b ∈ H.bx,b.l.length≤9)∧(∀ b ∈ H.ff,b.l.length≤9)∧(∀ b ∈ H.qu,b.l.length≤9)
variable {H : Ho}
theorem bdH.at (h:bdH H) (k:Nat) (hk:k<H.bx.length):H.bx[k].l.length≤9:=h.d.1 _ (List.getElem_mem hk)
theorem bdH.post (h:bdH H) {ev:R8} (hl:ev.l.length≤9):bdH (pH H ev):=by
 refine⟨h.b,h.f,h.c,?_,loP_in h.lo,h.st,h.d.1,h.d.2.1,?_⟩
 ·have:=h.q
  refine⟨?_,this.2⟩
  show ((quP H.c3 H.qu ev).length:Int)≤H.c3
  unfold quP
  split
  ·simp;omega
  ·omega
 ·intro b hb;have hb:b ∈ quP H.c3 H.qu ev:=hb
  unfold quP at hb
  split at hb
  ·rcases List.mem_append.1 hb with hb|hb
   ·exact h.d.2.2 b hb
   ·rw[List.mem_singleton.1 hb];exact hl
  ·exact h.d.2.2 b hb
theorem bdH.set (h:bdH H) (k:Nat) {b:R8} (hb:b.l.length≤9):bdH { H with bx:=H.bx.set k b }:=by
 refine⟨by show 1≤(H.bx.set k b).length∧_;rw[List.length_set];exact h.b,h.f,h.c,h.q,h.lo,h.st,fun x hx=>?_,h.d.2⟩
 rcases List.mem_or_eq_of_mem_set hx with hx|rfl
 ·exact h.d.1 x hx
 ·exact hb
theorem bdH.free (h:bdH H) (k:Nat):bdH (freeHo H k):=h.set k (nZ _)
theorem bdH.sta (h:bdH H) (k:Nat) (v:Int):bdH (stHo H k v):=by
 unfold stHo
 split
 ·exact h.set k (h.at k ‹_›)
 ·exact h
theorem bdH.ab (h:bdH H) (t:Int):bdH (abHo H t):=by
 unfold abHo
 split
 ·split
  ·exact (h.free _).post (nZ _)
  ·exact h.sta _ _
 ·exact h.post (nZ _)
theorem bdH.rel (h:bdH H) (b:Bool):bdH (relHo H b):=by
 unfold relHo
 split
 ·split
  ·exact (h.free _).post (h.at _ ‹_›)
  ·split
   ·exact (h.free _).post (nZ _)
   ·exact h.sta _ _
 ·exact h
theorem bdH.take (h:bdH H) (i:Int):bdH (takeHo H i):=by
 unfold takeHo takeB
 split
 ·split
  ·rename_i h1 _;exact h.set _ (h.at _ (by omega))
  ·exact h
 ·exact h
theorem bdH.sub (h:bdH H) (t:Int) {F:R5} (hF:F.l.length≤9):bdH (subHo H t F):=by
 unfold subHo
 repeat' split
 ·exact h.post (nZ _)
 ·exact h.post (nZ _)
 ·exact h.post (nZ _)
 ·exact h.post (nZ _)
 ·have q:=h.set (freeIx H.bx) (b:=⟨1,t,H.st,F.e,F.i,F.r,F.d,F.l⟩) hF
  exact⟨q.b,q.f,q.c,q.q,q.lo,by have:=h.st;show 0≤H.st+1∧H.st+1≤1000000;omega,q.d⟩
 ·exact h.post (nZ _)
theorem bdH.ffs (h:bdH H) {r:List R5} (hl:(r.length:Int)≤H.c1) (hr:∀ b ∈ r,b.l.length≤9):bdH (fHo H r):=⟨h.b,h.f,⟨h.c.1,h.c.2.1,hl⟩,h.q,h.lo,h.st,h.d.1,hr,h.d.2.2⟩
theorem bdH.fet (h:bdH H):bdH (fetHo H):=by
 unfold fetHo
 split
 ·exact h.post (nZ _)
 ·rename_i f r e
  have hc:=h.c
  have hd:=h.d.2.1
  rw[e] at hc hd
  exact (h.post (ev:=evF 12 1 0 f) (hd f (by simp))).ffs (by show (r.length:Int)≤H.c1;simp at hc;omega) fun b hb=>hd b (by simp[hb])
theorem bdH.del (h:bdH H) {F:R5} (hF:F.l.length≤9):bdH (delHo H F):=by
 unfold delHo
 split
 ·split
  ·split
   ·exact h.post hF
   ·split
    ·exact h
    ·rename_i f r e
     have hc:=h.c
     have hd:=h.d.2.1
     rw[e] at hc hd
     refine ((h.post (ev:=evF 3 0 0 f) (hd f (by simp))).ffs (r:=r++[F]) (by show ((r++[F]).length:Int)≤H.c1;simp at hc ⊢;omega) fun b hb=>?_).post hF
     rcases List.mem_append.1 hb with hb|hb
     ·exact hd b (by simp[hb])
     ·rw[List.mem_singleton.1 hb];exact hF
  ·rename_i hne
   refine (h.ffs (r:=H.ff++[F]) (by have:=h.c;simp;omega) fun b hb=>?_).post hF
   rcases List.mem_append.1 hb with hb|hb
   ·exact h.d.2.1 b hb
   ·rw[List.mem_singleton.1 hb];exact hF
 ·exact h
theorem bdH.drop (h:bdH H):bdH { H with qu:=[] }:=⟨h.b,h.f,h.c,by have:=h.q;exact⟨by simp;omega,this.2⟩,h.lo,h.st,h.d.1,h.d.2.1,fun b hb=>by cases hb⟩
theorem bdH.le (h:bdH H):H.le 1048576:=by
 have h1:=h.b
 have h2:=h.f
 have h3:=h.c
 have h4:=h.q
 exact⟨by omega,by omega,by omega,by omega,fun j hj=>nT (h.d.1 _ (List.getElem_mem hj)) (by decide),fun j hj=>nT (h.d.2.1 _ (List.getElem_mem hj)) (by decide),fun j hj=>nT (h.d.2.2 _ (List.getElem_mem hj)) (by decide)⟩
structure hV (T:Nat) (Z:List Value) (w0 w:World) (b:Nat) (a:Option Addr) (n cap:Nat) (l:List Nat) (σ:Sg) (P:Nat) (κ:Nat→Nat) (H:Ho) (sl:Sl) (L:List Value) (W:World):Prop where
 s:srcF w0 b a n cap l σ W
 o:onS b w W
 z:blk W w.heap.size Z T
 p:blk W P L T
 g:hG κ H sl W
 x:w.heap.size<P∧b<w.heap.size∧κ P=0
 k:∀ x,x≤w.heap.size→κ x=0
variable {w0 w W W' : World} {b : Nat} {a : Option Addr} {n cap : Nat} {l : List Nat} {σ σ' τ : Sg} {T P : Nat} {Z L : List Value} {κ κ' : Nat → Nat} {H H' : Ho} {s s' : Sl}
theorem srcF.mv (h:srcF w0 b a n cap l σ W) (hm:mvH κ W κ' W') {B:Nat} (hk:∀ x,x≤B→κ x=0) (hb:b≤B):srcF w0 b a n cap l σ W':=
 ⟨h.at_.kept (hm.k b h.at_.lt (hk b hb)),⟨hm.o.1.trans h.bel.os,hm.o.2.1.trans h.bel.tape,hm.o.2.2.trans h.bel.output,nT h.bel.size hm.s,fun x hx=>(hm.k x (nL hx h.bel.size) (hk x (by have:=h.hb;omega))).trans (h.bel.block x hx)⟩,h.by_,h.hb,h.hi⟩
theorem hV.on (h:hV T Z w0 w b a n cap l σ P κ H s L W) (hs:srcF w0 b a n cap l σ' W') (q:onS b W W'):hV T Z w0 w b a n cap l σ' P κ H s L W':=
 ⟨hs,h.o.trans q,h.z.kept (q.k _ (by have:=h.x;omega) h.z.lt),h.p.kept (q.k _ (by have:=h.x;omega) h.p.lt),h.g.st (fun x hx=>q.k x (by rintro rfl;exact hx (h.k _ (Nat.le_of_lt h.x.2.1))) (h.g.sm x hx)) q.s,h.x,h.k⟩
theorem hV.below (h:hV T Z w0 w b a n cap l σ P κ H s L W) (q:Below W.heap.size W W'):hV T Z w0 w b a n cap l σ P κ H s L W':=h.on (h.s.below q) (onS.of q)
theorem hV.call {f:Nat} {args:List Value} {v:Value} (D:dr f args l σ v τ) (h:hV T Z w0 w b a n cap l σ P κ H s L W):Calls Tp f (pT (some ⟨b,0,none⟩) :: args).toArray W fun o w'=>o = rT v∧Hid (hV T Z w0 w b a n cap l τ P κ H s L w'):=
 (D.out _ _ _ _ _ _ h.s).mono fun _ _ q=>⟨q.1,h.on q.2.1 q.2.2⟩
theorem hV.mv (h:hV T Z w0 w b a n cap l σ P κ H s L W) (hg:hG κ' H' s' W'∧mvH κ W κ' W'):hV T Z w0 w b a n cap l σ P κ' H' s' L W':=by
 have hz:=h.z.lt
 have hs:=h.o.s
 refine⟨h.s.mv hg.2 h.k (Nat.le_of_lt h.x.2.1),⟨nT h.o.s hg.2.s,fun x h1 h2=>(hg.2.k x (by omega) (h.k x (by omega))).trans (h.o.k x h1 h2),hg.2.o.1.trans h.o.o.1,hg.2.o.2.1.trans h.o.o.2.1,hg.2.o.2.2.trans h.o.o.2.2⟩,hg.2.blk h.z (h.k _ (nR _)),hg.2.blk h.p h.x.2.2,hg.1,⟨h.x.1,h.x.2.1,by rw[hg.2.c P h.p.lt];exact h.x.2.2⟩,fun x hx=>by rw[hg.2.c x (by omega)];exact h.k x hx⟩
theorem hV.cells (h:hV T Z w0 w b a n cap l σ P κ H s L W) (o:Nat) (vs:List Value) {L':List Value} (hL:blk (W.setCells P o vs) P L' T):hV T Z w0 w b a n cap l σ P κ H s L' (W.setCells P o vs):=by
 have he:∀ x,x≠P→(W.setCells P o vs).heap[x]?=W.heap[x]?:=fun x hx=>sO _ x hx _ _ _
 have hz:(W.setCells P o vs).heap.size=W.heap.size:=sZ ..
 have hx:=h.x
 have hb:=h.s.hb
 have h8:=sW (B:=0) (nZ P) o vs (bW 0 W)
 exact⟨h.s.other (q:=P) (by omega) (by omega) (fun x h1 _=>he x h1) (by omega) ⟨h8.os,h8.tape,h8.output⟩,h.o.other (q:=P) (by omega) (fun x h1 _=>he x h1) (by omega) ⟨h8.os,h8.tape,h8.output⟩,h.z.kept (he _ (by omega)),hL,h.g.cells hx.2.2 _ _,hx,h.k⟩
theorem hV.set (h:hV T Z w0 w b a n cap l σ P κ H s L W) (i:Nat) (v:Value):hV T Z w0 w b a n cap l σ P κ H s (L.set i v) (W.setCell ⟨P,i,none⟩ v):=h.cells i [v] (h.p.set i v)
theorem hV.put (h:hV T Z w0 w b a n cap l σ P κ H s L W) (L':List Value) (hl:L.length=L'.length):hV T Z w0 w b a n cap l σ P κ H s L' (W.setCells P 0 L'):=h.cells 0 L' (by simpa using blk.put [] L [] L' (by simpa using h.p) hl)
def hostO (w0 w:World) (b:Nat) (a:Option Addr) (n cap:Nat) (l:List Nat) (H:Ho) (τ:Sg) (o:Ending) (w':World):Prop:=∃ s κ,o = rT (aG (hoL H s).toArray)∧hG κ H s w'∧(∀ x,x<w.heap.size→κ x=0)∧srcF w0 b a n cap l τ w'∧onS b w w'
def smE (l:List Nat) (σ:Sg) (F:R5) (τ:Sg):Prop:=Hid (∀ (w0 w:World) (b:Nat) (a:Option Addr) (n cap:Nat),srcF w0 b a n cap l σ w→Calls Tp 167 #[pT (some ⟨b,0,none⟩)] w (frO w0 w b a n cap l (F,τ)))
theorem hV.small {F:R5} (D:smE l σ F τ) (h:hV T Z w0 w b a n cap l σ P κ H s L W):Calls Tp 167 #[pT (some ⟨b,0,none⟩)] W fun o w'=>∃ g k,o = rT (frV F.e F.i F.r F.d (some ⟨g,0,none⟩) F.l.length k)∧Hid (hV T Z w0 w b a n cap l τ P κ H s L w')∧Hid (iB w' (some ⟨g,0,none⟩) F.l.length k F.l∧g<w'.heap.size∧κ g=0):=by
 refine (D.out _ _ _ _ _ _ h.s).mono ?_
 rintro o w' ⟨g,k,rfl,h1,h2,h3,h4,_⟩;exact⟨g,k,rfl,h.on h3 h4,h2.now,h1.2,h.g.no h1.1⟩
def stR (l:List Nat) (p p':Ho × Sg):Prop:=∃ (v:Nat) (s1:Sg),dr 60 [I J 10] l p.2 (I J (v:Int)) s1 ∧
 (((v=0∨v=1∨v=2∨v=3)∧∃ (t:Nat) (F:R5) (s2 s3:Sg),dr 60 [I J 12] l s1 (I J (t:Int)) s2∧smE l s2 F s3∧F.l.length≤8∧p'=(subHo p.1 (t:Int) F,s3)) ∨
  ((v=4∨v=5)∧∃ (F:R5) (s2:Sg),smE l s1 F s2∧F.l.length≤8∧p'=(delHo p.1 F,s2)) ∨
  (v=6∧∃ (t:Nat) (s2:Sg),dr 60 [I J 12] l s1 (I J (t:Int)) s2∧p'=(abHo p.1 (t:Int),s2)) ∨
  (v=7∧¬ wI p.1.bx<p.1.bx.length∧∃ r:Int,bestR p.1.bx r∧p'=(takeHo p.1 r,s1)) ∨
  (v=7∧wI p.1.bx<p.1.bx.length∧∃ (t:Nat) (s2:Sg),dr 60 [I J 2] l s1 (I J (t:Int)) s2∧p'=(relHo p.1 ((t:Int) == 0),s2)) ∨
  (v=8∧p'=(fetHo p.1,s1)) ∨
  (v=9∧∃ (t:Nat) (s2:Sg),dr 60 [I J 3] l s1 (I J (t:Int)) s2∧((t=0∧p'=({ p.1 with qu:=[] },s2))∨(t≠0∧p'=(p.1,s2)))))
theorem stR_ex (l:List Nat) (H:Ho) (σ:Sg) (hb:bdH H) (hi:σ.1+300≤1000000000):∃ p':Ho × Sg,stR l (H,σ) p'∧bdH p'.1∧p'.2.1≤σ.1+40:=by
 obtain⟨v,s1,p1,q1,D1⟩:=nE l σ 10 10 rfl (by decide) (by decide) (by omega)
 obtain hv|hv|rfl|rfl|rfl|rfl:(v=0∨v=1∨v=2∨v=3)∨(v=4∨v=5)∨v=6∨v=7∨v=8∨v=9:=by omega
 ·obtain⟨t,s2,p2,q2,D2⟩:=nE l s1 12 12 rfl (by decide) (by decide) (by omega)
  obtain⟨⟨F,s3⟩,q3,hl,D3⟩:=genSmall_f l s2 (by omega)
  dsimp only at q3 hl
  exact⟨_,⟨v,s1,D1,Or.inl ⟨hv,t,F,s2,s3,D2,D3,hl,rfl⟩⟩,hb.sub _ (by omega),by dsimp only;omega⟩
 ·obtain⟨⟨F,s3⟩,q3,hl,D3⟩:=genSmall_f l s1 (by omega)
  dsimp only at q3 hl
  exact⟨_,⟨v,s1,D1,Or.inr (Or.inl ⟨hv,F,s3,D3,hl,rfl⟩)⟩,hb.del (by omega),by dsimp only;omega⟩
 ·obtain⟨t,s2,p2,q2,D2⟩:=nE l s1 12 12 rfl (by decide) (by decide) (by omega)
  exact⟨_,⟨6,s1,D1,Or.inr (Or.inr (Or.inl ⟨rfl,t,s2,D2,rfl⟩))⟩,hb.ab _,by dsimp only;omega⟩
 ·by_cases hw:wI H.bx<H.bx.length
  ·obtain⟨t,s2,p2,q2,D2⟩:=nE l s1 2 2 rfl (by decide) (by decide) (by omega)
   exact⟨_,⟨7,s1,D1,Or.inr (Or.inr (Or.inr (Or.inr (Or.inl ⟨rfl,hw,t,s2,D2,rfl⟩))))⟩,hb.rel _,by dsimp only;omega⟩
  ·obtain⟨r,hr⟩ : ∃ r,bestR H.bx r:=by
    rcases Classical.em (∃ i,isBest H.bx i) with⟨i,h⟩|h
    ·exact⟨i,Or.inr ⟨i,rfl,h⟩⟩
    ·exact⟨-1,Or.inl ⟨rfl,fun i hi=>h ⟨i,hi⟩⟩⟩
   exact⟨_,⟨7,s1,D1,Or.inr (Or.inr (Or.inr (Or.inl ⟨rfl,hw,r,hr,rfl⟩)))⟩,hb.take _,by dsimp only;omega⟩
 ·exact⟨_,⟨8,s1,D1,Or.inr (Or.inr (Or.inr (Or.inr (Or.inr (Or.inl ⟨rfl,rfl⟩)))))⟩,hb.fet,by dsimp only;omega⟩
 ·obtain⟨t,s2,p2,q2,D2⟩:=nE l s1 3 3 rfl (by decide) (by decide) (by omega)
  by_cases ht:t=0
  ·exact⟨_,⟨9,s1,D1,Or.inr (Or.inr (Or.inr (Or.inr (Or.inr (Or.inr ⟨rfl,t,s2,D2,Or.inl ⟨ht,rfl⟩⟩)))))⟩,hb.drop,by dsimp only;omega⟩
  ·exact⟨_,⟨9,s1,D1,Or.inr (Or.inr (Or.inr (Or.inr (Or.inr (Or.inr ⟨rfl,t,s2,D2,Or.inr ⟨ht,rfl⟩⟩)))))⟩,hb,by dsimp only;omega⟩
theorem seqH (l:List Nat) (p:Ho × Sg) (m:Nat) (hb:bdH p.1) (hs:p.2.1+40*m+300≤1000000000):∃ S:Nat→Ho × Sg,S 0=p∧(∀ k,k≤m→bdH (S k).1∧(S k).2.1≤p.2.1+40*k)∧∀ k,k<m→stR l (S k) (S (k+1)):=by
 have H':∀ x:Ho × Sg,∃ y:Ho × Sg,bdH x.1∧x.2.1+300≤1000000000→stR l x y∧bdH y.1∧y.2.1≤x.2.1+40:=fun x=>by
  by_cases h:bdH x.1∧x.2.1+300≤1000000000
  ·obtain⟨y,hy⟩:=stR_ex l x.1 x.2 h.1 h.2
   exact⟨y,fun _=>hy⟩
  ·exact⟨x,fun g=>absurd g h⟩
 obtain⟨f,hf⟩:=Classical.axiomOfChoice H'
 obtain⟨S,h0,hS⟩ : ∃ S:Nat→Ho × Sg,S 0=p∧∀ k,S (k+1)=f (S k):=⟨fun k=>Nat.rec p (fun _ x=>f x) k,rfl,fun _=>rfl⟩
 have hbd:∀ k,k≤m→bdH (S k).1∧(S k).2.1≤p.2.1+40*k:=by
  intro k;induction k with
  | zero=>intro _;rw[h0];exact⟨hb,nR _⟩
  | succ k ih=>
   intro h;have h1:=ih (by omega)
   have h3:=hf (S k) ⟨h1.1,by omega⟩
   rw[hS]
   exact⟨h3.2.1,by omega⟩
 refine⟨S,h0,hbd,fun k hk=>?_⟩
 have h1:=hbd k (by omega)
 rw[hS]
 exact (hf (S k) ⟨h1.1,by omega⟩).1
theorem bxR.part {B T g n k:Nat} {bx:List R8} {hs:Nat→Hd} {W:World} (h:bxR B T g n k bx hs W) (i:Nat) (hi:i<bx.length) (t:Nat) (vs:List Value) (b:R8) (hd:Hd) (ht:t+vs.length≤8) (h1:∀ u,u<vs.length→(x8 (b,hd))[t+u]?=vs[u]?) (h2:∀ u,u<8→(u<t∨t+vs.length≤u)→(x8 (b,hd))[u]?=(x8 (bx[i],hs i))[u]?) (hb:iB W hd.1 hd.2.1 hd.2.2 b.l) (hw:(hd.1=none∧hd.2.1=0)∨∃ b,hd.1=some ⟨b,0,none⟩∧B≤b∧b<T∧b≠g):bxR B T g n k (bx.set i b) (fun j=>if j=i then hd else hs j) (W.setCells g (i*8+t) vs):=by
 have hln:=h.len
 rw[setCells_row]
 have oth:∀ x,x≠g→(setRow W g (i*8+t) vs).heap[x]?=W.heap[x]?:=fun x hx=>setRow_block g x hx _ _ _
 have dk:∀ (hd':Hd) (l:List Nat),iB W hd'.1 hd'.2.1 hd'.2.2 l→((hd'.1=none∧hd'.2.1=0)∨∃ b,hd'.1=some ⟨b,0,none⟩∧B≤b∧b<T∧b≠g)→iB (setRow W g (i*8+t) vs) hd'.1 hd'.2.1 hd'.2.2 l:=by
  intro hd' l h1 h2;rcases h2 with⟨e1,e2⟩|⟨c,e1,e2,e3,e4⟩
  ·exact h1.none0 e2
  ·rw[e1] at h1 ⊢
   exact h1.other (oth c e4)
 refine⟨by rw[List.length_set];exact h.len,h.cap,h.lo,h.hi,h.row.setRow _ _ _ _,fun j hj=>?_,fun j hj=>?_⟩
 ·have hj':j<bx.length:=by simpa using hj
  by_cases e:j=i
  ·subst e;rw[List.getElem_set_self,if_pos rfl]
   intro u v hu;have hu8:u<8:=by have:=(List.getElem?_eq_some_iff.mp hu).1;simpa[x8] using this
   by_cases hr:u<t∨t+vs.length≤u
   ·rw[rO g _ _ _ _ (by omega)]
    rw[h2 u hu8 hr] at hu
    exact h.rng j hj' u v hu
   ·have e2:u=t+(u-t):=by omega
    rw[e2,h1 (u-t) (by omega)] at hu
    have e3:j*8+u=j*8+t+(u-t):=by omega
    have hl:u-t<vs.length:=by omega
    rw[e3,setRow_at g _ _ _ (u-t) hl (by rw[← e3];exact (h.row (j*8+u) (by omega)).1)]
    rw[List.getElem?_eq_getElem hl] at hu
    exact hu
  ·rw[List.getElem_set_ne (fun x=>e x.symm),if_neg e]
   intro u v hu;have hu8:u<8:=by have:=(List.getElem?_eq_some_iff.mp hu).1;simpa[x8] using this
   rw[rO g _ _ _ _ (by omega)]
   exact h.rng j hj' u v hu
 ·have hj':j<bx.length:=by simpa using hj
  by_cases e:j=i
  ·subst e;rw[List.getElem_set_self,if_pos rfl]
   exact⟨dk hd b.l hb hw,hw⟩
  ·rw[List.getElem_set_ne (fun x=>e x.symm),if_neg e]
   exact⟨dk _ _ (h.dat j hj').1 (h.dat j hj').2,(h.dat j hj').2⟩
variable {κ κ' κ0 : Nat → Nat} {H H' : Ho} {s s' : Sl} {w0 w W W' : World} {b : Nat} {a : Option Addr} {n cap : Nat} {l : List Nat} {σ σ' τ : Sg} {L : List Value}
theorem hG.part (h:hG κ H s W) {gb:Nat} (e2:s.a2=some ⟨gb,0,none⟩) {k:Nat} (hk:k<H.bx.length):∃ hd0:Hd,W.rangeAt gb (k*8) (x8 (H.bx[k],hd0))∧rowF W gb (s.n2*8)∧(∀ t vs (b:R8),t+vs.length≤8→b.l=H.bx[k].l→(∀ u,u<vs.length→(x8 (b,hd0))[t+u]?=vs[u]?)→(∀ u,u<8→(u<t∨t+vs.length≤u)→(x8 (b,hd0))[u]?=(x8 (H.bx[k],hd0))[u]?)→hG κ { H with bx:=H.bx.set k b } s (W.setCells gb (k*8+t) vs)∧mvH κ W κ (W.setCells gb (k*8+t) vs)) ∧
  ∀ t vs (b:R8) (gd m c:Nat),t+vs.length≤8→iB W (some ⟨gd,0,none⟩) m c b.l→gd<W.heap.size→κ gd=2→gd≠gb→(∀ u,u<vs.length→(x8 (b,(some ⟨gd,0,none⟩,m,c)))[t+u]?=vs[u]?)→(∀ u,u<8→(u<t∨t+vs.length≤u)→(x8 (b,(some ⟨gd,0,none⟩,m,c)))[u]?=(x8 (H.bx[k],hd0))[u]?)→hG κ { H with bx:=H.bx.set k b } s (W.setCells gb (k*8+t) vs)∧mvH κ W κ (W.setCells gb (k*8+t) vs):=by
 obtain⟨gb',hs,e,hk2,h1,h2⟩:=h.x
 obtain rfl:gb'=gb:=by rw[e2] at e;cases e;rfl
 have key:∀ t vs (b:R8) (hd:Hd),t+vs.length≤8→iB W hd.1 hd.2.1 hd.2.2 b.l→((hd.1=none∧hd.2.1=0)∨∃ g,hd.1=some ⟨g,0,none⟩∧g<W.heap.size∧κ g=2∧g≠gb')→(∀ u,u<vs.length→(x8 (b,hd))[t+u]?=vs[u]?)→(∀ u,u<8→(u<t∨t+vs.length≤u)→(x8 (b,hd))[u]?=(x8 (H.bx[k],hs k))[u]?)→hG κ { H with bx:=H.bx.set k b } s (W.setCells gb' (k*8+t) vs)∧mvH κ W κ (W.setCells gb' (k*8+t) vs):=by
  intro t vs b hd ht hb hw q1 q2;have hz:W.heap.size≤(W.setCells gb' (k*8+t) vs).heap.size:=by rw[sZ];exact nR _
  have ho:∀ d,d≠2→∀ x,κ x=d→κ x=d∧(W.setCells gb' (k*8+t) vs).heap[x]?=W.heap[x]?:=fun d hd' x hx=>⟨hx,sO _ x (by rintro rfl;omega) _ _ _⟩
  have hp:=h1.part k hk t vs b hd ht q1 q2 hb (by rcases hw with hw | ⟨g,q1,q2,q3,q4⟩;exact Or.inl hw;exact Or.inr ⟨g,q1,nZ _,q2,q4⟩)
  refine⟨⟨h.f_ (ho 1 (by omega)),⟨gb',_,e,hk2,by rw[sZ];exact hp,fun j c hj hc=>?_⟩,h.r_ (ho 3 (by omega)) hz,h.q_ (ho 4 (by omega)) hz,fun x hx=>by rw[sZ];exact h.sm x hx⟩,(mvH.refl κ W).cells (Or.inr (by omega)) _ _⟩
  have hj':j<H.bx.length:=by simpa using hj
  by_cases ej:j=k
  ·rw[if_pos ej] at hc
   rcases hw with hw|⟨g,q1,q2,q3,q4⟩
   ·rw[hw.1] at hc;cases hc
   ·rw[q1] at hc;cases hc;exact q3
  ·rw[if_neg ej] at hc
   exact h2 j c hj' hc
 refine⟨hs k,h1.rng k hk,h1.row,fun t vs b ht hl q1 q2=>?_,fun t vs b gd m c ht hb g1 g2 g3 q1 q2=>key t vs b _ ht hb (Or.inr ⟨gd,rfl,g1,g2,g3⟩) q1 q2⟩
 obtain⟨d1,d2⟩:=h1.dat k hk
 refine key t vs b (hs k) ht (by rw[hl];exact d1) ?_ q1 q2
 rcases d2 with d2|⟨g,d2,d3,d4,d5⟩
 ·exact Or.inl d2
 ·exact Or.inr ⟨g,d2,d4,h2 k g hk d2,d5⟩
theorem hG.filter (h:hG κ H s W) {gf:Nat} (e1:s.a1=some ⟨gf,0,none⟩) (F:R3) {g' k':Nat} (ho:W'.ownsRow 0 164 3 (sL (some ⟨g',0,none⟩) (s.n1+1) k') (s.n1+1) (c3 H.fs++[bO F.e,I .u32 F.m,I .u32 F.k])) (hg:W.grownBy W' (some gf)) (hg':g'=gf∨g'=W.heap.size):hG (fun x=>if x=g' then 1 else κ x) { H with fs:=H.fs++[F] } { s with a1:=some ⟨g',0,none⟩,n1:=s.n1+1,k1:=k' } W'∧mvH κ W (fun x=>if x=g' then 1 else κ x) W':=by
 obtain⟨gf',e,hk,h0,h1⟩:=h.f
 obtain rfl:gf'=gf:=by rw[e1] at e;cases e;rfl
 have hgf:=h.sm gf' (by omega)
 have old:∀ x,x≠gf'→x<W.heap.size→W'.heap[x]?=W.heap[x]?:=fun x h1 h2=>hg.block x h2 (by intro e;cases e;exact h1 rfl)
 have hk2:∀ d,d≠0→d≠1→∀ x,κ x=d→(if x=g' then 1 else κ x)=d∧W'.heap[x]?=W.heap[x]?:=fun d hd hd1 x hx=>by
  have hxl:=h.sm x (by omega)
  have hxg:x≠gf':=by rintro rfl;omega
  rw[if_neg (by omega)]
  exact⟨hx,old x hxg hxl⟩
 have hc:c3 H.fs++[bO F.e,I .u32 F.m,I .u32 F.k]=c3 (H.fs++[F]):=by simp[c3]
 rw[hc] at ho
 have hl:=h1.len
 obtain⟨g2,c2,e2,q1,q2,q3,q4,q5⟩:=c3_owns (n:=s.n1+1) (by simp;omega) ho (by intro e;cases e)
 cases e2
 refine⟨⟨⟨g',rfl,if_pos rfl,ho,q5.now⟩,h.x_ (hk2 2 (by omega) (by omega)) hg.size,h.r_ (hk2 3 (by omega) (by omega)) hg.size,h.q_ (hk2 4 (by omega) (by omega)) hg.size,fun x hx=>?_⟩,⟨hg.size,fun x hx=>?_,fun x hx h0=>old x (by rintro rfl;omega) hx,hg.os,hg.tape,hg.output⟩⟩
 ·by_cases e:x=g'
  ·rw[e];exact q2
  ·rw[if_neg e] at hx
   exact nL (h.sm x hx) hg.size
 ·by_cases e:x=g'
  ·rw[if_pos e]
   rcases hg' with e3|e3
   ·rw[e,e3];exact hk.symm
   ·omega
  ·exact if_neg e
theorem hG.event (h:hG κ H s W) {g4:Nat} (e4:s.a4=some ⟨g4,0,none⟩) (ev:R8) {gd kd:Nat} (hb:iB W (some ⟨gd,0,none⟩) ev.l.length kd ev.l) (hgd:gd<W.heap.size∧κ gd=4∧gd≠g4) {g' k':Nat} (ho:∀ rs:List (R8 × Nat × Nat),ownG rc8 W 0 67 8 g4 s.k4 rs→rs.map (·.1)=H.qu→rs.length=s.n4→W'.ownsRow 0 67 8 (sL (some ⟨g',0,none⟩) (s.n4+1) k') (s.n4+1) (rs.flatMap rc8.enc++rc8.enc (ev,gd,kd))) (hg:W.grownBy W' (some g4)) (hg':g'=g4∨g'=W.heap.size):hG (fun x=>if x=g' then 4 else κ x) { H with qu:=H.qu++[ev] } { s with a4:=some ⟨g',0,none⟩,n4:=s.n4+1,k4:=k' } W'∧mvH κ W (fun x=>if x=g' then 4 else κ x) W':=by
 obtain⟨g4',rs,e,hk,h0,hm,hl,h1⟩:=h.q
 obtain rfl:g4'=g4:=by rw[e4] at e;cases e;rfl
 have hg4:=h.sm g4' (by omega)
 have old:∀ x,x≠g4'→x<W.heap.size→W'.heap[x]?=W.heap[x]?:=fun x h1 h2=>hg.block x h2 (by intro e;cases e;exact h1 rfl)
 have hk2:∀ d,d≠0→d≠4→∀ x,κ x=d→(if x=g' then 4 else κ x)=d∧W'.heap[x]?=W.heap[x]?:=fun d hd hd1 x hx=>by
  have hxl:=h.sm x (by omega)
  have hxg:x≠g4':=by rintro rfl;omega
  rw[if_neg (by omega)]
  exact⟨hx,old x hxg hxl⟩
 have hs:=h0.snoc (ev,gd,kd) hb (nZ _) hgd.2.2 hgd.1 (by have:=ho rs h0 hm hl;rw[hl];exact this) hg hg'
 have hc4:∀ x,κ x=4→(if x=g' then 4 else κ x)=4:=fun x hx=>by split <;> simp_all
 refine⟨⟨h.f_ (hk2 1 (by omega) (by omega)),h.x_ (hk2 2 (by omega) (by omega)) hg.size,h.r_ (hk2 3 (by omega) (by omega)) hg.size,⟨g',_,rfl,if_pos rfl,hs,by simp[hm],by simp[hl],fun p hp=>?_⟩,fun x hx=>?_⟩,⟨hg.size,fun x hx=>?_,fun x hx h0=>old x (by rintro rfl;omega) hx,hg.os,hg.tape,hg.output⟩⟩
 ·rcases List.mem_append.1 hp with hp|hp
  ·exact hc4 _ (h1 p hp)
  ·rw[List.mem_singleton.1 hp]
   exact hc4 gd hgd.2.1
 ·by_cases e:x=g'
  ·rw[e];exact hs.lt.2
  ·rw[if_neg e] at hx
   exact nL (h.sm x hx) hg.size
 ·by_cases e:x=g'
  ·rw[if_pos e]
   rcases hg' with e3|e3
   ·rw[e,e3];exact hk.symm
   ·omega
  ·exact if_neg e
end Go.Proofs.YtkfcfigbgmbaiaaGreat
