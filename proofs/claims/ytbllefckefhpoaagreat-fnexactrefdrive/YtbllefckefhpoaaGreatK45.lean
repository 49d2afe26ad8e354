import Derived.Test.YtbllefckefhpoaaGreatK43
import Derived.Test.YtbllefckefhpoaaGreatK39
namespace Go.Proofs.YtbllefckefhpoaaGreat
open Go.RowKit
set_option linter.unusedVariables false
set_option maxHeartbeats 16000000
open Go.Value renaming int→I,slice→sL,bool→bO,pointer→pT,agg→aG
open Go.IntKind renaming i64→J
open Go.Ending renaming returned→rT
open Go.Proofs.Tryz renaming prog→Tp
def onI (bx:List R8):Nat:=bx.findIdx (fun b=>b.x == 2 || b.x == 3)
theorem bsy_onI {bx:List R8} {z:Int} (h:bsy bx z) (hw:wrP bx):z=(onI bx:Int)∧onI bx<bx.length:=by
 rcases h with⟨k,hk,h1,h2,rfl⟩|⟨h1,_⟩
 ·have e:onI bx=k:=by
   unfold onI
   rw[List.findIdx_eq hk]
   refine⟨by simpa[onW] using h1,fun j hj=>?_⟩
   have:=h2 j (by omega) hj
   simpa[onW] using this
  exact⟨by rw[e],by omega⟩
 ·exact absurd h1 hw
def imgC (C:Co):ByteArray:=(fun b:R8=>encZ b.e b.i b.r b.d b.l.length b.l) (C.ho.bx.getD (onI C.ho.bx) bx0)
theorem imgC_at (C:Co) (h:onI C.ho.bx<C.ho.bx.length):imgC C=encZ C.ho.bx[onI C.ho.bx].e C.ho.bx[onI C.ho.bx].i C.ho.bx[onI C.ho.bx].r C.ho.bx[onI C.ho.bx].d C.ho.bx[onI C.ho.bx].l.length C.ho.bx[onI C.ho.bx].l:=by
 unfold imgC
 rw[List.getD_eq_getElem?_getD,List.getElem?_eq_getElem h]
 rfl
theorem wrP_on {bx:List R8} (hw:wrP bx):onI bx<bx.length:=by
 unfold wrP at hw
 obtain⟨k,hk⟩:=Classical.not_forall.1 hw
 obtain⟨hl,h1⟩:=Classical.not_forall.1 hk
 have h1:=Classical.not_not.1 h1
 unfold onI
 rw[List.findIdx_lt_length]
 exact⟨bx[k],List.getElem_mem hl,by simpa[onW] using h1⟩
theorem l5img_any (w:World) (C:Co) (s:Sl) (h:isHo w C.ho s) (hn:s.n2≤8) (hw:wrP C.ho.bx) :
  Calls Tp 27 #[aG (coL C s).toArray] w fun o w'=>∃ (e:Bool) (i:Nat) (r:Bool) (d:Int) (ao:Option Addr) (m c:Nat) (l:Unit),o = rT (frV e i r d ao m c)∧Below w.heap.size w w'∧Calls Tp 26 #[frV e i r d ao m c] w' fun o w2=>o = rT (.string (imgC C))∧Below w'.heap.size w' w2:=by
 have hk:=wrP_on hw
 refine (l5frame_any w C s _ hk h hn fun z hz=>(bsy_onI hz hw).1).mono ?_
 rintro o w' ⟨ao,m,c,rfl,h1,h2⟩;refine⟨_,_,_,_,ao,m,c,(),rfl,h2,?_⟩
 rw[imgC_at C hk]
 generalize C.ho.bx[onI C.ho.bx]=b at *;have:=specEncode_any w' b.e b.i b.r b.d ao m c b.l h1
 rw[h1.len] at this
 rw[h1.len]
 exact this
theorem rfL_coreR {w:World} {b:Nat} {C:Co} {s:Sl} {hd:ByteArray} {T:TypeId} (h:blk w b (rfL C s hd) T):w.rangeAt b 0 (coL C s):=by
 have h':blk w b ([]++coL C s++[.string hd]) T:=h
 exact h'.loadAt [] (coL C s) [.string hd]
set_option maxRecDepth 20000 in
theorem l5image_any (w:World) (C:Co) (s:Sl) (hd:ByteArray) (p1 tx:Bool) (e1:(C.p == 1)=p1) (et:C.tx=tx) (h:isHo w C.ho s) (hn:s.n2≤8) (hw:(p1 && tx)=true→wrP C.ho.bx) :
  Calls Tp 16 #[aG (rfL C s hd).toArray] w fun o w'=>o = rT (.string (if (p1 && tx)=true then imgC C else ⟨#[]⟩))∧Below w.heap.size w w':=by
 have H0:Hid (blk (w.alloc (.cells (rfL C s hd).toArray 45)) w.heap.size (rfL C s hd) 45∧Below w.heap.size w (w.alloc (.cells (rfL C s hd).toArray 45))):=⟨blk.new w _ 45,(Below.refl _ _).alloc (Nat.le_refl _) _⟩
 have HI:Hid ((p1 && tx)=true→∀ V,Below w.heap.size w V→Calls Tp 27 #[aG (coL C s).toArray] V fun o w'=>∃ (e:Bool) (i:Nat) (r:Bool) (d:Int) (ao:Option Addr) (m c:Nat) (l:Unit),o = rT (frV e i r d ao m c)∧Below V.heap.size V w'∧Calls Tp 26 #[frV e i r d ao m c] w' fun o w2=>o = rT (.string (imgC C))∧Below w'.heap.size w' w2):=fun hp V hV=>l5img_any V C s (h.below hV) hn (hw hp)
 obtain⟨v0,hv0⟩ : ∃ v0,v0=w.alloc (.cells (rfL C s hd).toArray 45):=⟨_,rfl⟩
 rw[← hv0] at H0
 have y0:=H0.out.1.cell 0 (I J C.p) rfl
 have y6:=H0.out.1.cell 6 (bO C.tx) rfl
 rw[et] at y6
 clear h hw;go_enter Tryz.func16,Tryz.ntmps16
 go_upto_region 1 with fail
 rw[← hv0]
 clear hv0;cases p1
 ·go_wp2_with fail;go_ret;exact⟨rfl,H0.out.2⟩
 ·cases tx
  ·go_wp2_with fail;go_ret;exact⟨rfl,H0.out.2⟩
  ·go_wp2_with (first | (refine wpList_load_mid (P:=Tp) rfl 43 _ rfl w.heap.size 0 rfl (coL C s) _ (rfL_coreR H0.out.1) Tryz.underlying43 rfl (szC41L C s) ?_))
   refine (HI.out rfl _ H0.out.2).mono ?_
   rintro o w1 ⟨e,i,r,d,ao,m,c,_,rfl,hb1,hE⟩;have HE:=hidYY hE
   have HB:=hidYY (H0.out.2.trans (hb1.mono H0.out.2.size))
   clear hE hb1;go_wp2_with fail;refine HE.out.mono ?_
   rintro o w2 ⟨rfl,hb2⟩;have HB2:=hidYY (HB.out.trans (hb2.mono HB.out.size))
   clear hb2;go_wp2_with fail;go_ret;exact⟨rfl,HB2.out⟩
def lvZ (p1 p2 wk tx v12 vo:Bool) (x:Nat):Int:=if (p2 && !wk)=true then 0 else if p1=false then 1 else if tx=true then (x:Int)-48 else if (v12 && vo)=true then 0 else 1
set_option maxRecDepth 20000 in
theorem l5level_any (w:World) (C:Co) (s:Sl) (hd img:ByteArray) (vc vf:Nat) (vd vo:Bool) (x:Nat) (p1 p2 wk tx v12:Bool) (e1:(C.p == 1)=p1) (n1:(C.p != 1) = !p1) (e2:(C.p == 2)=p2) (ew:C.wk=wk) (et:C.tx=tx) (ev:((vf:Int) == 12)=v12)
  (hx:(p1 && tx)=true→∃ h:hd.size<img.size,img[hd.size].toNat=x) (hx2:x=48∨x=49) :
  Calls Tp 15 #[aG (rfL C s hd).toArray,.string img,aG #[I J (vc:Int),I J (vf:Int),bO vd,bO vo]] w fun o w'=>o = rT (I J (lvZ p1 p2 wk tx v12 vo x))∧Below w.heap.size w w':=by
 have H0:Hid (blk ((w.alloc (.cells (rfL C s hd).toArray 45)).alloc (.cells [I J (vc:Int),I J (vf:Int),bO vd,bO vo].toArray 58)) w.heap.size (rfL C s hd) 45∧blk ((w.alloc (.cells (rfL C s hd).toArray 45)).alloc (.cells [I J (vc:Int),I J (vf:Int),bO vd,bO vo].toArray 58)) (w.heap.size+1) [I J (vc:Int),I J (vf:Int),bO vd,bO vo] 58∧Below w.heap.size w ((w.alloc (.cells (rfL C s hd).toArray 45)).alloc (.cells [I J (vc:Int),I J (vf:Int),bO vd,bO vo].toArray 58))):=by
  refine⟨(blk.new w _ 45).alloc _,?_,((Below.refl _ _).alloc (Nat.le_refl _) _).alloc (by simp) _⟩
  have:=blk.new (w.alloc (.cells (rfL C s hd).toArray 45)) [I J (vc:Int),I J (vf:Int),bO vd,bO vo] 58
  simpa using this
 obtain⟨v0,hv0⟩ : ∃ v0,v0=(w.alloc (.cells (rfL C s hd).toArray 45)).alloc (.cells [I J (vc:Int),I J (vf:Int),bO vd,bO vo].toArray 58):=⟨_,rfl⟩
 rw[← hv0] at H0
 have y0:=H0.out.1.cell 0 (I J C.p) rfl
 have y3:=H0.out.1.cell 3 (bO C.wk) rfl
 have y6:=H0.out.1.cell 6 (bO C.tx) rfl
 have y21:=H0.out.1.cell 21 (.string hd) rfl
 have z1:=H0.out.2.1.cell 1 (I J (vf:Int)) rfl
 have z3:=H0.out.2.1.cell 3 (bO vo) rfl
 rw[et] at y6
 rw[ew] at y3
 have HB:=hidYY H0.out.2.2
 clear H0 et ew;obtain⟨g,eg⟩ : ∃ g,(p2 && !wk)=g:=⟨_,rfl⟩
 have HL:Hid (lvZ p1 p2 wk tx v12 vo x=if g=true then 0 else if p1=false then 1 else if tx=true then (x:Int)-48 else if (v12 && vo)=true then 0 else 1):=by show _=_;unfold lvZ;rw[eg]
 generalize lvZ p1 p2 wk tx v12 vo x=Z at *;have HG:=hidYY eg
 clear eg;go_enter Tryz.func15,Tryz.ntmps15
 go_upto_region 1 with fail
 change Code.wp _ _ _ _ ((w.alloc (.cells (rfL C s hd).toArray 45)).alloc (.cells [I J (vc:Int),I J (vf:Int),bO vd,bO vo].toArray 58))
 rw[← hv0]
 clear hv0;go_cut [16] (fun v wx=>v = bO g∧wx=v0)
 case first=>
  cases p2 <;> cases wk <;> (
   go_wp2_with fail;go_meet
   case rel=>exact⟨by rw[← HG.out];rfl,rfl⟩)
 case rest=>
 obtain⟨rfl,hw⟩:=hcut
 have hw:=hw.symm
 subst hw;clear y3 HG;cases g
 ·cases p1
  ·go_wp2_with fail;go_ret;exact⟨by rw[HL.out];rfl,HB.out⟩
  ·cases tx
   ·cases v12
    ·go_wp2_with fail;go_ret;exact⟨by rw[HL.out];rfl,HB.out⟩
    ·cases vo
     ·go_wp2_with fail;go_ret;exact⟨by rw[HL.out];rfl,HB.out⟩
     ·go_wp2_with fail;go_ret;exact⟨by rw[HL.out];rfl,HB.out⟩
   ·obtain⟨hl,hv⟩:=hx rfl
    generalize hxx:img[hd.size].toNat=xx at *;subst hv;rcases hx2 with rfl|rfl
    ·go_wp2_with fail;go_ret;exact⟨by rw[HL.out];rfl,HB.out⟩
    ·go_wp2_with fail;go_ret;exact⟨by rw[HL.out];rfl,HB.out⟩
 ·go_wp2_with fail;go_ret;exact⟨by rw[HL.out];rfl,HB.out⟩
def imB (E hd:ByteArray):Prop:=hd.size<E.size∧∀ i (h:i<hd.size) (h':i<E.size),hd[i].toNat=if i=E.size-9 then 48 else E[i].toNat
theorem getB (E:ByteArray) (i:Nat) (h:i<E.size):E[i]=E.data.toList[i]'(by rw[← Go.Lib.size_eq];exact h):=by
 rw[Array.getElem_toList]
 rfl
theorem imB_imP (E hd:ByteArray):imB E hd↔imP E.data.toList hd.data.toList:=by
 have s1:=Go.Lib.size_eq E
 have s2:=Go.Lib.size_eq hd
 constructor
 ·rintro⟨h1,H⟩;refine⟨by omega,fun i h h'=>?_⟩
  have:=H i (by omega) (by omega)
  rw[getB E i (by omega),getB hd i (by omega)] at this
  rw[← s1]
  split at this
  ·rename_i e
   rw[if_pos e]
   exact UInt8.toNat_inj.1 this
  ·rename_i e
   rw[if_neg e]
   exact UInt8.toNat_inj.1 this
 ·rintro⟨h1,H⟩;refine⟨by omega,fun i h h'=>?_⟩
  have:=H i (by omega) (by omega)
  rw[getB E i h',getB hd i h,this]
  by_cases e:i=E.size-9
  ·rw[if_pos e,if_pos (by omega)]
   rfl
  ·rw[if_neg e,if_neg (by omega)]
theorem imB_ack (E hd:ByteArray) (h:10≤E.size):imB E hd↔(hd.size<(ackB E).size∧Go.Lib.hasPrefix (ackB E).data.toList hd.data.toList=true):=by
 rw[imB_imP,← imP_iff,← ackB_list E h,← Go.Lib.size_eq,← Go.Lib.size_eq]
def hkP (C:Co) (hd:ByteArray) (vc:Nat):Prop:=if C.p=1 then (if C.tx=true then imB (imgC C) hd else (hd.size≠0∧(vc=0∨vc=1))) else hd.size=0
def okRf (C:Co) (hd:ByteArray) (vc:Nat):Prop:=okCo C∧hkP C hd vc
theorem strN_at (l:List Nat) (h:∀ x ∈ l,M.isL x) (i:Nat) (hi:i<(strN l).size):(strN l)[i].toNat=48∨(strN l)[i].toNat=49:=by
 have hl:i<l.length:=by rw[← strN_size];exact hi
 have e:(strN l)[i].toNat=l[i] % 256:=by
  rw[getB _ i hi]
  simp[strN]
 have h2:=h l[i] (List.getElem_mem hl)
 rw[e]
 rcases h2 with h2 | h2 <;> rw[h2] <;> decide
theorem enc_size (e:Bool) (i:Nat) (r:Bool) (d:Int) (l:List Nat) (h:validB e i r d l.length=true) (hl:l.length≤8):10≤(encZ e i r d l.length l).size∧(encZ e i r d l.length l).size≤1000∧∀ k (hk:k<(encZ e i r d l.length l).size),(encZ e i r d l.length l)[k].toNat=48∨(encZ e i r d l.length l)[k].toNat=49:=by
 have e1:encZ e i r d l.length l=strN (M.stuffL (plainL e i r d.toNat l)++List.replicate 10 49):=by unfold encZ;rw[if_pos h]
 rw[e1]
 have hL:∀ x ∈ M.stuffL (plainL e i r d.toNat l)++List.replicate 10 49,M.isL x:=by
  intro x hx;rcases List.mem_append.1 hx with h1|h1
  ·exact M.stuff_all _ (plainL_isL e i r d.toNat l) x h1
  ·exact Or.inr (List.eq_of_mem_replicate h1)
 refine⟨?_,?_,fun k hk=>strN_at _ hL k hk⟩
 ·rw[strN_size,List.length_append,List.length_replicate];omega
 ·rw[strN_size,List.length_append,List.length_replicate]
  have h1:=M.stuff_len (plainL e i r d.toNat l)
  have h2:=plainL_length e i r d.toNat l
  split at h2 <;> omega
theorem imgC_size (C:Co) (h:okCo C) (hw:wrP C.ho.bx):10≤(imgC C).size∧(imgC C).size≤1000∧∀ i (hi:i<(imgC C).size),(imgC C)[i].toNat=48∨(imgC C)[i].toNat=49:=by
 have hk:=wrP_on hw
 have h1:=h.h.bx.1 (onI C.ho.bx) hk
 have hx:C.ho.bx[onI C.ho.bx].x≠0:=by
  have:=List.findIdx_getElem (xs:=C.ho.bx) (p:=fun b:R8=>b.x == 2 || b.x == 3) (w:=hk)
  intro e;have h2:(C.ho.bx[onI C.ho.bx].x == 2 || C.ho.bx[onI C.ho.bx].x == 3)=true:=this
  rw[e] at h2
  simp at h2
 unfold okBx at h1
 rw[if_neg hx] at h1
 rw[imgC_at C hk]
 have hv:=h1.2.2.2
 generalize C.ho.bx[onI C.ho.bx]=b at *;exact enc_size _ _ _ _ _ hv (validB_true hv).2.2.2.2
set_option maxRecDepth 20000 in
theorem l5ok_any (w:World) (C:Co) (s:Sl) (hd:ByteArray) (vc vf:Nat) (vd vo:Bool) (h:isHo w C.ho s) (hn:C.ho.le 1048576)
  (hj:∀ W,Calls Tp 17 #[.string hd] W fun o w'=>o = rT (aG #[I J (vc:Int),I J (vf:Int),bO vd,bO vo])∧Below W.heap.size W w') :
  Calls Tp 12 #[aG (rfL C s hd).toArray] w fun o w'=>retB o (okRf C hd vc)∧Below w.heap.size w w':=by
 have H0:Hid (blk (w.alloc (.cells (rfL C s hd).toArray 45)) w.heap.size (rfL C s hd) 45∧Below w.heap.size w (w.alloc (.cells (rfL C s hd).toArray 45))):=⟨blk.new w _ 45,(Below.refl _ _).alloc (Nat.le_refl _) _⟩
 have HJ:=hidYY hj
 obtain⟨v0,hv0⟩ : ∃ v0,v0=w.alloc (.cells (rfL C s hd).toArray 45):=⟨_,rfl⟩
 rw[← hv0] at H0
 by_cases hok:okCo C
 ·have HV:=hidYY (okLC v0 C s (h.below H0.out.2) hn hok)
  have hn2:s.n2≤8:=by have h1:=h.bx.len;have h2:=hok.h.n2;omega
  have HWR:Hid (C.p=1→C.tx=true→wrP C.ho.bx):=fun h1 h2=>hok.s.1 ⟨h1,h2⟩
  have HIM:Hid (C.p=1→C.tx=true→∀ V,Below w.heap.size w V→Calls Tp 27 #[aG (coL C s).toArray] V fun o w'=>∃ (e:Bool) (i:Nat) (r:Bool) (d:Int) (ao:Option Addr) (m c:Nat) (l:Unit),o = rT (frV e i r d ao m c)∧Below V.heap.size V w'∧Calls Tp 26 #[frV e i r d ao m c] w' fun o w2=>o = rT (.string (imgC C))∧Below w'.heap.size w' w2):=fun h1 h2 V hV=>l5img_any V C s (h.below hV) hn2 (HWR.out h1 h2)
  have HSZ:Hid (C.p=1→C.tx=true→10≤(imgC C).size∧(imgC C).size≤1000∧∀ i (hi:i<(imgC C).size),(imgC C)[i].toNat=48∨(imgC C)[i].toNat=49):=fun h1 h2=>imgC_size C hok (HWR.out h1 h2)
  have HOK:Hid (okRf C hd vc↔hkP C hd vc):=⟨fun x=>x.2,fun x=>⟨hok,x⟩⟩
  clear h hn hj hok;go_enter Tryz.func12,Tryz.ntmps12
  go_upto_region 1 with fail
  rw[← hv0]
  clear hv0;go_wp2_with (first | (refine wpList_load_mid (P:=Tp) rfl 43 _ rfl w.heap.size 0 rfl (coL C s) _ (rfL_coreR H0.out.1) Tryz.underlying43 rfl (szC41L C s) ?_))
  refine HV.out.mono ?_
  rintro o w1 ⟨rfl,hb1⟩;have H1:=hidYY (And.intro (H0.out.1.below hb1) (H0.out.2.trans (hb1.mono H0.out.2.size)))
  have y0:=H1.out.1.cell 0 (I J C.p) rfl
  have y6:=H1.out.1.cell 6 (bO C.tx) rfl
  have y21:=H1.out.1.cell 21 (.string hd) rfl
  clear hb1 HV H0;obtain⟨p1,ep,np,fp⟩ : ∃ b:Bool,(C.p == 1)=b∧(C.p != 1) = !b∧Hid (b=true↔C.p=1):=⟨_,rfl,rfl,by show _↔_;simp⟩
  cases p1
  ·go_wp2_with fail;go_ret;refine⟨⟨_,rfl,?_⟩,H1.out.2⟩
   rw[HOK.out]
   unfold hkP
   rw[if_neg (by simpa using fp.out)]
   simp
  ·have hp:C.p=1:=fp.out.1 rfl
   have HP:=hidYY hp
   rw[hp] at y0
   clear fp hp;obtain⟨tx,et⟩ : ∃ b,C.tx=b:=⟨_,rfl⟩
   have HT:=hidYY et
   rw[et] at y6
   clear et;go_wp2_with fail;refine (HJ.out _).mono ?_
   rintro o w2 ⟨rfl,hb2⟩;have H2:Hid (blk w2 w.heap.size (rfL C s hd) 45∧Below w.heap.size w w2∧blk (w2.alloc (.cells [I J 0,I J 0,bO false,bO false].toArray 58)) w2.heap.size [I J 0,I J 0,bO false,bO false] 58):=⟨H1.out.1.below hb2,H1.out.2.trans (hb2.mono H1.out.2.size),blk.new w2 _ 58⟩
   clear hb2 H1 y0 y6 y21;go_upto_region 6 with (refine wpList_store_mid (P:=Tp) rfl 58 _ _ rfl w2.heap.size 0 [I J (vc:Int),I J (vf:Int),bO vd,bO vo].toArray rfl rfl (H2.out.2.2.there 0 4 (by simp)) (by kernel_rfl) (all_oneCell_toArray (by simp[Value.oneCell'])) ?_;generalize hW3:World.setCells _ w2.heap.size 0 _=w3;have HW3:Hid (_=w3):=hW3;clear hW3)
   have H3:Hid (blk w3 w.heap.size (rfL C s hd) 45∧Below w.heap.size w w3∧blk w3 w2.heap.size [I J (vc:Int),I J (vf:Int),bO vd,bO vo] 58):=by
    have e:(w2.alloc (.cells [I J 0,I J 0,bO false,bO false].toArray 58)).setCells w2.heap.size 0 [I J (vc:Int),I J (vf:Int),bO vd,bO vo]=w3:=HW3.out
    have hb:Below w2.heap.size w2 w3:=by rw[← e];exact setCells_below (Nat.le_refl _) 0 _ ((Below.refl _ _).alloc (Nat.le_refl _) _)
    refine⟨H2.out.1.below hb,H2.out.2.1.trans (hb.mono H2.out.2.1.size),?_⟩
    rw[← e]
    have:=blk.put [] [I J 0,I J 0,bO false,bO false] [] [I J (vc:Int),I J (vf:Int),bO vd,bO vo] (w:=w2.alloc (.cells [I J 0,I J 0,bO false,bO false].toArray 58)) (b:=w2.heap.size) (T:=58) (by simpa using H2.out.2.2) rfl
    simpa using this
   clear H2 HW3;have y6:=H3.out.1.cell 6 (bO C.tx) rfl
   have y21:=H3.out.1.cell 21 (.string hd) rfl
   have z0:=H3.out.2.2.cell 0 (I J (vc:Int)) rfl
   rw[HT.out] at y6
   cases tx
   ·have HK:Hid (okRf C hd vc↔(hd.size≠0∧(vc=0∨vc=1))):=by
     show _↔_
     rw[HOK.out]
     unfold hkP
     rw[if_pos HP.out,if_neg (by rw[HT.out];simp)]
    clear HOK;by_cases h0:hd.size=0
    ·have g0:¬ (0:Int)<(hd.size:Int):=by omega
     go_wp2_with fail;go_ret;exact⟨⟨false,rfl,⟨fun x=>(by cases x),fun x=>absurd h0 (HK.out.1 x).1⟩⟩,H3.out.2.1⟩
    ·have g0:(0:Int)<(hd.size:Int):=by omega
     by_cases c0:vc=0
     ·have b0:((vc:Int) == 0)=true:=by simp[c0]
      go_wp2_with fail;go_ret;exact⟨⟨true,rfl,⟨fun _=>HK.out.2 ⟨h0,Or.inl c0⟩,fun _=>rfl⟩⟩,H3.out.2.1⟩
     ·have b0:((vc:Int) == 0)=false:=by simp[c0]
      obtain⟨b1,e1,f1⟩ : ∃ b:Bool,((vc:Int) == 1)=b∧Hid (b=true↔vc=1):=⟨_,rfl,by show _↔_;simp;omega⟩
      go_wp2_with fail;go_ret;refine⟨⟨b1,rfl,?_⟩,H3.out.2.1⟩
      rw[HK.out,f1.out]
      exact⟨fun x=>⟨h0,Or.inr x⟩,fun x=>by rcases x.2 with y | y;exact absurd y c0;exact y⟩
   ·have HK:Hid (okRf C hd vc↔imB (imgC C) hd):=by
     show _↔_
     rw[HOK.out]
     unfold hkP
     rw[if_pos HP.out,if_pos HT.out]
    have hsz:=HSZ.out HP.out HT.out
    have HIM:=hidYY (HIM.out HP.out HT.out)
    clear HOK HSZ HWR HP HT z0;generalize imgC C=E at *;go_wp2_with (first | (refine wpList_load_mid (P:=Tp) rfl 43 _ rfl w.heap.size 0 rfl (coL C s) _ (rfL_coreR H3.out.1) Tryz.underlying43 rfl (szC41L C s) ?_))
    refine (HIM.out w3 H3.out.2.1).mono ?_
    rintro o w4 ⟨e,i,r,d,ao,m,c,_,rfl,hb4,hE⟩;have HE:=hidYY hE
    have H4:=hidYY (And.intro (H3.out.1.below hb4) (H3.out.2.1.trans (hb4.mono H3.out.2.1.size)))
    clear hE hb4 H3 y6 y21;go_wp2_with fail;refine HE.out.mono ?_
    rintro o w5 ⟨rfl,hb5⟩;have H5:=hidYY (And.intro (H4.out.1.below hb5) (H4.out.2.trans (hb5.mono H4.out.2.size)))
    have y21:=H5.out.1.cell 21 (.string hd) rfl
    clear hb5 H4 HE HIM;by_cases hlt:¬ hd.size<E.size
    ·have g0:(E.size:Int)≤(hd.size:Int):=by omega
     go_wp2_with fail;go_ret;exact⟨⟨false,rfl,⟨fun x=>(by cases x),fun x=>absurd (HK.out.1 x).1 hlt⟩⟩,H5.out.2⟩
    have hlt:hd.size<E.size:=Classical.not_not.1 hlt
    have g0:¬ (E.size:Int)≤(hd.size:Int):=by omega
    have hd1:hd.size≤1048576:=by omega
    have hwr:IntKind.i64.wrap ((E.size:Int)-9)=((E.size-9:Nat):Int):=by rw[IntKind.wrap_i64];omega
    have HSZ:=hidYY hsz
    go_wp2_with fail;clear hsz;go_loopw [6] (fun t wr=>∃ k:Nat,k≤hd.size∧t = I J (k:Int)∧(∀ i (h:i<hd.size) (h':i<E.size),i<k→hd[i].toNat=if i=E.size-9 then 48 else E[i].toNat)∧wr=w5) (fun t _=>hd.size-(intOf t).toNat)
    case atStart=>exact⟨0,Nat.zero_le _,rfl,fun i h h' h0=>absurd h0 (Nat.not_lt_zero _),rfl⟩
    case round=>
     obtain⟨k,hk,rfl,hd0,hwv⟩:=hrel
     have hwv:=hwv.symm
     subst hwv;have HD0:=hidYY hd0
     clear hd0;by_cases hkl:k<hd.size
     ·have hke:k<E.size:=by omega
      by_cases hka:k=E.size-9
      ·have e9:((k:Int) == ((E.size-9:Nat):Int))=true:=by simp[hka]
       have HKA:=hidYY hka
       clear hka;by_cases hx:hd[k].toNat=48
       ·have n1:((hd[k].toNat:Int) != 48)=false:=by simp[hx]
        have HXX:=hidYY hx
        clear hx;go_wp2_with fail;go_roundw
        case rel=>
         refine⟨k+1,by omega,by go_num,fun i h h' hi=>?_,trivial⟩
         by_cases e:i=k
         ·subst e;rw[if_pos HKA.out]
          exact HXX.out
         ·exact HD0.out i h h' (by omega)
        case measure=>simp[intOf];omega
       ·have n1:((hd[k].toNat:Int) != 48)=true:=by simp;omega
        have HXX:=hidYY hx
        clear hx;go_wp2_with fail;go_ret;refine⟨⟨false,rfl,⟨fun x=>(by cases x),fun x=>?_⟩⟩,H5.out.2⟩
        have h2:=(HK.out.1 x).2 k hkl hke
        rw[if_pos HKA.out] at h2
        exact absurd h2 HXX.out
      ·have e9:((k:Int) == ((E.size-9:Nat):Int))=false:=by simp;omega
       have HKA:=hidYY hka
       clear hka;by_cases hx:hd[k].toNat=E[k].toNat
       ·have n1:((hd[k].toNat:Int) != (E[k].toNat:Int))=false:=by simp[hx]
        have HXX:=hidYY hx
        clear hx;go_wp2_with fail;go_roundw
        case rel=>
         refine⟨k+1,by omega,by go_num,fun i h h' hi=>?_,trivial⟩
         by_cases e:i=k
         ·subst e;rw[if_neg HKA.out]
          exact HXX.out
         ·exact HD0.out i h h' (by omega)
        case measure=>simp[intOf];omega
       ·have n1:((hd[k].toNat:Int) != (E[k].toNat:Int))=true:=by simp;omega
        have HXX:=hidYY hx
        clear hx;go_wp2_with fail;go_ret;refine⟨⟨false,rfl,⟨fun x=>(by cases x),fun x=>?_⟩⟩,H5.out.2⟩
        have h2:=(HK.out.1 x).2 k hkl hke
        rw[if_neg HKA.out] at h2
        exact absurd h2 HXX.out
     ·go_wp2_with fail;go_ret;exact⟨⟨true,rfl,⟨fun _=>HK.out.2 ⟨hlt,fun i h h'=>HD0.out i h h' (by omega)⟩,fun _=>rfl⟩⟩,H5.out.2⟩
 ·have HV:=hidYY (badLC v0 C s (h.below H0.out.2) hn hok)
  have HOK:Hid (¬ okRf C hd vc):=fun x=>hok x.1
  clear h hn hj hok;go_enter Tryz.func12,Tryz.ntmps12
  go_upto_region 1 with fail
  rw[← hv0]
  clear hv0;go_wp2_with (first | (refine wpList_load_mid (P:=Tp) rfl 43 _ rfl w.heap.size 0 rfl (coL C s) _ (rfL_coreR H0.out.1) Tryz.underlying43 rfl (szC41L C s) ?_))
  refine HV.out.mono ?_
  rintro o w1 ⟨rfl,hb1⟩;have H1:=hidYY (H0.out.2.trans (hb1.mono H0.out.2.size))
  clear hb1;go_wp2_with fail;go_ret;exact⟨⟨false,rfl,⟨fun x=>(by cases x),fun x=>absurd x HOK.out⟩⟩,H1.out⟩
end Go.Proofs.YtbllefckefhpoaaGreat
