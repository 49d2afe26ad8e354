import Derived.Test.YtkfcfigbgmbaiaaGreatK46
import Derived.Test.YtkfcfigbgmbaiaaGreatK47
import Derived.Test.YtkfcfigbgmbaiaaGreatK45
import Derived.Deep.CutBlock
namespace Go.Proofs.YtkfcfigbgmbaiaaGreat
open Go.RowKit
set_option linter.unusedVariables false
set_option maxHeartbeats 16000000
theorem bdQ.fHo {n:Nat} {H:Ho} (h:bdQ n H) (L:List R5):bdQ n (fHo H L):=⟨h.q,h.lo⟩
theorem bdQ.del {n:Nat} {H:Ho} (h:bdQ n H) (F:R5):bdQ (n+2) (delHo H F):=by
 unfold delHo
 split
 ·split
  ·split
   ·exact (h.post _).up (by omega)
   ·split
    ·exact h.up (by omega)
    ·exact (((h.post _).fHo _).post _)
  ·exact ((h.fHo _).post _).up (by omega)
 ·exact h.up (by omega)
theorem fin_end {C:Co} (hok:okCo C) (hp:C.p=1) (k:Int) (F:R5):tlC (finC C k F) (esZ C.p C.te C.re)=actC C (finC C k F):=by
 have ht:C.te≠256:=fun e=>by have:=hok.m.of.2 e;omega
 have ht2:=hok.m.te
 have e0:esZ C.p C.te C.re=stZ C.te C.re:=by unfold esZ stZ;rw[if_neg (by omega),if_neg ht]
 have e1:(finC C k F).p≠7∧(finC C k F).te≠256:=by
  unfold finC
  split
  ·refine⟨by show (5:Int)≠7;decide,?_⟩
   show snkZ C.te≠256
   unfold snkZ
   omega
  ·split
   ·exact⟨by show C.p≠7;omega,ht⟩
   ·split
    ·exact⟨by show (5:Int)≠7;decide,ht⟩
    ·split
     ·exact⟨by show (2:Int)≠7;decide,ht⟩
     ·split
      ·exact⟨by show C.p≠7;omega,ht⟩
      ·exact⟨by omega,ht⟩
 rw[e0]
 unfold actC
 rw[if_neg (fun x=>e1.2 x.1)]
 unfold tlC tellC
 have e2:esZ (finC C k F).p (finC C k F).te (finC C k F).re=stZ (finC C k F).te (finC C k F).re:=by unfold esZ stZ;rw[if_neg e1.1,if_neg e1.2]
 rw[e2]
theorem dv.vars {wz:World} {T2:Nat} {H:Ho} {s:Sl} {g:Nat} {W V:World} (h:dv wz T2 H s g W) {x:Nat} {L:List Value} (hx:blk W x L 41) (hT:T2≤x∧x<wz.heap.size) (hL:∀ j,Value.int .u8 j ∉ L) (hV:∀ q,q≠x→V.heap[q]?=W.heap[q]?) (hz:V.heap.size=W.heap.size):dv wz T2 H s g V:=
 ⟨h.a,by rw[hz];exact h.q.varsT hx (by decide) hL hV hz,fun V' hV'=>h.r V' fun y h1 h2 h3=>(hV' y h1 h2 (by omega)).trans (hV y (by omega))⟩
structure fG (w:World) (B T0 T1 T2:Nat) (L:List Value) (C:Co) (s:Sl) (W:World):Prop where
 p:blk W w.heap.size (coL C s) 41
 f:blk W (w.heap.size+1) L 55
 r:blk W (w.heap.size+2) Z21 41
 sp:spS B T0 T1 T2 C.ho s W
 b:Below w.heap.size w W
structure vG (w:World) (B T2:Nat) (wz:World) (g:Nat) (C:Co) (s0:Sl) (H:Ho) (s:Sl) (W:World):Prop where
 p:blk W w.heap.size (coL C s0) 41
 r:blk W (w.heap.size+2) Z21 41
 d:dv wz T2 H s g W
 z:w.heap.size+2<wz.heap.size
 b:Below B w W
 o:T2≤w.heap.size∧B≤w.heap.size
section
variable {w : World} {B T0 T1 T2 : Nat} {L : List Value} {wz : World} {g : Nat} {C : Co} {s0 : Sl} {H : Ho} {s : Sl} {W : World}
theorem fG.new (C:Co) (s:Sl) (L:List Value) (h:spS B T0 T1 T2 C.ho s w):fG w B T0 T1 T2 L C s (((w.alloc (.cells (coL C s).toArray 41)).alloc (.cells L.toArray 55)).alloc (.cells Z21.toArray 41)):=by
 have n1:=blk.new w (coL C s) 41
 have n2:=blk.new (w.alloc (.cells (coL C s).toArray 41)) L 55
 have n3:=blk.new ((w.alloc (.cells (coL C s).toArray 41)).alloc (.cells L.toArray 55)) Z21 41
 have e1:(w.alloc (.cells (coL C s).toArray 41)).heap.size=w.heap.size+1:=by simp
 have e2:((w.alloc (.cells (coL C s).toArray 41)).alloc (.cells L.toArray 55)).heap.size=w.heap.size+2:=by simp
 rw[e1] at n2
 rw[e2] at n3
 have hb:Below w.heap.size w (((w.alloc (.cells (coL C s).toArray 41)).alloc (.cells L.toArray 55)).alloc (.cells Z21.toArray 41)):=(((Below.refl _ _).alloc (Nat.le_refl _) _).alloc (by simp) _).alloc (by simp;omega) _
 exact⟨(n1.alloc _).alloc _,n2.alloc _,n3,h.below hb,hb⟩
theorem fG.below (h:fG w B T0 T1 T2 L C s W) {W':World} (hb:Below W.heap.size W W'):fG w B T0 T1 T2 L C s W':=⟨h.p.below hb,h.f.below hb,h.r.below hb,h.sp.below hb,h.b.trans (hb.mono h.b.size)⟩
theorem fG.call (h:fG w B T0 T1 T2 L C s W) (ho:T2≤w.heap.size∧B≤w.heap.size) {H':Ho} {s':Sl} {W':World} (hd:dv wz T2 H' s' g W') (hz:w.heap.size+2<wz.heap.size) (hk:k41 T2 W W') (hb:Below B W W'):vG w B T2 wz g C s H' s' W':=
 ⟨hk _ _ ho.1 h.p,hk _ _ (by omega) h.r,hd,hz,(h.b.mono ho.2).trans hb,ho⟩
theorem fG.callS (h:fG w B T0 T1 T2 L C s W) (ho:T2≤w.heap.size∧B≤w.heap.size) {H':Ho} {s':Sl} {W':World} (hs:spS B T0 T1 T2 H' s' W') (hk:k41 T2 W W') (hb:Below B W W'):∃ g,vG w B T2 W' g C s H' s' W':=by
 obtain⟨g,hd⟩:=dv_of (w:=W') hs hs.o.2.2.2
 exact⟨g,h.call ho hd (by have:=h.r.lt;have:=hb.size;omega) hk hb⟩
theorem fG.same (h:fG w B T0 T1 T2 L C s W) (ho:T2≤w.heap.size∧B≤w.heap.size):∃ g,vG w B T2 W g C s C.ho s W:=h.callS ho h.sp (fun _ _ _ hb=>hb) (Below.refl _ _)
theorem vG.other (h:vG w B T2 wz g C s0 H s W) {C':Co} {s1:Sl} {V:World} (hp:blk V w.heap.size (coL C' s1) 41) (hV:∀ q,q≠w.heap.size→V.heap[q]?=W.heap[q]?) (hz:V.heap.size=W.heap.size) (hb:Below B w V):vG w B T2 wz g C' s1 H s V:=
 ⟨hp,h.r.kept (hV _ (by omega)),h.d.vars h.p ⟨h.o.1,by have:=h.z;omega⟩ (coL_nb C s0) hV hz,h.z,hb,h.o⟩
theorem vG.host (h:vG w B T2 wz g C s0 H s W):vG w B T2 wz g { C with ho:=H } s H s (W.setCells w.heap.size 11 (hoL H s)):=
 h.other (h.p.host H s) (fun q hq=>setCells_other _ q hq _ _ _) (setCells_size ..) (setCells_below h.o.2 11 _ h.b)
theorem vG.put (h:vG w B T2 wz g C s0 H s W) (C':Co) (e:C'.ho=H):vG w B T2 wz g C' s H s (W.setCells w.heap.size 0 (coL C' s)):=
 h.other (h.p.core rfl C' s) (fun q hq=>setCells_other _ q hq _ _ _) (setCells_size ..) (setCells_below h.o.2 0 _ h.b)
theorem vG.set (h:vG w B T2 wz g C s0 H s W) (i:Nat) (v:Value) (C':Co) (e:(coL C s0).set i v=coL C' s0):vG w B T2 wz g C' s0 H s (W.setCell ⟨w.heap.size,i,none⟩ v):=
 h.other (by rw[← e];exact h.p.set i v) (fun q hq=>heap_setCell_other W ⟨w.heap.size,i,none⟩ q _ hq) (by simp) (h.b.setCell (by exact h.o.2) _)
theorem vG.tell (h:vG w B T2 wz g C s C.ho s W) (hBT:B≤T2) (hbd:bdQ 1000 C.ho) (old:Int):Calls Tryz.prog 104 #[.agg (coL C s).toArray,.int .i64 old] W fun o w'=>∃ s',o = .returned (.agg (coL (tlC C old) s').toArray)∧blk w' (w.heap.size+2) Z21 41∧isHo (w'.setCells (w.heap.size+2) 0 (coL (tlC C old) s')) (tlC C old).ho s'∧Below B w w':=by
 have hrl:=h.r.lt
 have hql:=h.d.q.glt
 have hgr:g≠w.heap.size+2:=h.d.q.ne h.r (by decide)
 have ho:=h.o
 have hz:=h.z
 have hn4:s.n4≤1000:=by rw[h.d.q.is.len];exact hbd.q
 by_cases e:esZ C.p C.te C.re=old
 ·rw[show tlC C old=C from if_pos e]
  refine (l4tell_no W C s old e).mono ?_
  rintro o w' ⟨rfl,hb⟩;have hr':=h.r.below hb
  refine⟨s,rfl,hr',?_,h.b.trans (hb.mono (by have:=h.b.size;omega))⟩
  have oth:∀ q,q≠w.heap.size+2→q<W.heap.size→(w'.setCells (w.heap.size+2) 0 (coL C s)).heap[q]?=W.heap[q]?:=fun q hq hl=>(setCells_other _ q hq _ _ _).trans (hb.block q hl)
  obtain⟨r1,r2,r3⟩:=h.d.r (w'.setCells (w.heap.size+2) 0 (coL C s)) fun x h1 h2 h3=>oth x (by omega) h3
  have hq':rowQ8 T2 W.heap.size 67 g s.n4 s.k4 C.ho.qu w':=h.d.q.keep fun x _ h2=>hb.block x h2
  have hq:rowQ8 T2 W.heap.size 67 g s.n4 s.k4 C.ho.qu (w'.setCells (w.heap.size+2) 0 (coL C s)):=hq'.varsT hr' (by decide) Z21_nb (fun q hq=>setCells_other _ q hq _ _ _) (setCells_size ..)
  refine⟨r1,r2,r3,?_⟩
  rw[h.d.a]
  exact hq.is
 ·rw[show tlC C old = { C with ho:=postHo C.ho (ev3 10 (esZ C.p C.te C.re) 0) } from if_neg e]
  refine (l4tell_q W C s T2 W.heap.size g old e h.d.a h.d.q (by have:=h.b.size;omega) (Nat.le_refl _) hn4 hbd.lo).mono ?_
  rintro o w' ⟨g',n',k',rfl,q1,q2,q3⟩;have hr':blk w' (w.heap.size+2) Z21 41:=h.r.kept (q2 _ hgr.symm hrl)
  refine⟨qSl s g' n' k',rfl,hr',?_,h.b.trans (q3.mono hBT)⟩
  have oth:∀ q,q≠w.heap.size+2→q≠g→q<W.heap.size→(w'.setCells (w.heap.size+2) 0 (coL { C with ho:=postHo C.ho (ev3 10 (esZ C.p C.te C.re) 0) } (qSl s g' n' k'))).heap[q]?=W.heap[q]?:=fun q hq hg hl=>(setCells_other _ q hq _ _ _).trans (q2 q hg hl)
  obtain⟨r1,r2,r3⟩:=h.d.r (w'.setCells (w.heap.size+2) 0 (coL { C with ho:=postHo C.ho (ev3 10 (esZ C.p C.te C.re) 0) } (qSl s g' n' k'))) fun x h1 h2 h3=>oth x (by omega) h2 h3
  have hq:=(q1 w' (fun _ _ _ _=>rfl) (Nat.le_refl _)).varsT (V:=w'.setCells (w.heap.size+2) 0 (coL { C with ho:=postHo C.ho (ev3 10 (esZ C.p C.te C.re) 0) } (qSl s g' n' k'))) hr' (by decide) Z21_nb (fun q hq=>setCells_other _ q hq _ _ _) (setCells_size ..)
  exact⟨r1,r2,r3,hq.is⟩
end
theorem hidG {w:World} {B T2:Nat} {wz:World} {g:Nat} {C:Co} {s0:Sl} {H:Ho} {s:Sl} {W V:World} (e:W=V) (h:vG w B T2 wz g C s0 H s W):Hid (vG w B T2 wz g C s0 H s V):=by rw[← e];exact h
set_option maxRecDepth 20000 in
theorem l4doFinish_any (w:World) (C:Co) (s:Sl) (B T0 T1 T2:Nat) (k:Int) (F:R5) (fa:Option Addr) (fm fc:Nat) (h:spS B T0 T1 T2 C.ho s w) (hok:okCo C) (hp:C.p=1) (hn:C.ho.le 1048576) (hf:∀ V,Below B w V→isBytes V fa fm fc F.l) (hfm:fm≤1048576) :
  Calls Tryz.prog 48 #[.agg (coL C s).toArray,.int .i64 k,frV F.e F.i F.r F.d fa fm fc] w fun o w'=>∃ s',o = .returned (.agg (coL (actC C (finC C k F)) s').toArray)∧isHo w' (actC C (finC C k F)).ho s'∧Below B w w':=by
 have H0:Hid (fG w B T0 T1 T2 [.bool F.e,.int .u32 (F.i:Int),.bool F.r,.int .i64 F.d,.slice fa fm fc] C s (((w.alloc (.cells (coL C s).toArray 41)).alloc (.cells [.bool F.e,.int .u32 (F.i:Int),.bool F.r,.int .i64 F.d,.slice fa fm fc].toArray 55)).alloc (.cells [.int .i64 0,.int .i64 0,.int .i64 0,.bool false,.bool false,.bool false,.bool false,.bool false,.int .i64 0,.int .i64 0,.int .i64 0,.int .i64 0,.int .i64 0,.int .i64 0,.int .i64 0,.slice none 0 0,.slice none 0 0,.slice none 0 0,.slice none 0 0,.int .i64 0,.int .i64 0].toArray 41))):=fG.new C s _ h
 have HO:Hid (T2≤w.heap.size∧B≤w.heap.size∧B≤T2):=by have:=h.o;exact⟨by omega,by omega,by omega⟩
 obtain⟨es,hes⟩ : ∃ es,esZ C.p C.te C.re=es:=⟨_,rfl⟩
 have HEN:=hidX (fin_end hok hp k F)
 rw[hes] at HEN
 have hbd:=hok.h.bd
 have HES:Hid (∀ W,Calls Tryz.prog 27 #[.agg (coL C s).toArray] W fun o w'=>o = .returned (.int .i64 es)∧Below W.heap.size W w'):=fun W=>by
  have:=specES_any W C s
  rw[hes] at this
  exact this
 have hdl:=hok.h.dl
 have HRE:Hid (∀ W b,spS B T0 T1 T2 C.ho s W→Calls Tryz.prog 102 #[.agg (hoL C.ho s).toArray,.bool b] W fun o w'=>∃ s',o = .returned (.agg (hoL (relHo C.ho b) s').toArray)∧spS B T0 T1 T2 (relHo C.ho b) s' w'∧k41 T2 W w'∧Below B W w'):=fun W b hW=>l3rel_c W C.ho s b B T0 T1 T2 hW (hbd.up (by omega)) (by have:=hok.h.n2;omega) hn.bd
 have HDE:Hid (∀ W,Below B w W→spS B T0 T1 T2 C.ho s W→Calls Tryz.prog 110 #[.agg (hoL C.ho s).toArray,frV F.e F.i F.r F.d fa fm fc] W fun o w'=>∃ s' g',o = .returned (.agg (hoL (delHo C.ho F) s').toArray)∧dv W T2 (delHo C.ho F) s' g' w'∧k41 T2 W w'∧Below B W w'):=fun W hb hW=>l3del_c B T0 T1 T2 W C.ho s F fa fm fc hW (by rw[hW.is.fs.len];exact hdl.1) (by rw[hW.is.ff.len];exact hdl.2.1) (by rw[hW.n4];exact hdl.2.2.1) hbd.lo (fun V hV=>hf V (hb.trans hV)) hfm hn.fd hdl.2.2.2.1 hdl.2.2.2.2
 have HOV:Hid (∀ W,spS B T0 T1 T2 C.ho s W→Calls Tryz.prog 111 #[.agg (coL C s).toArray] W fun o w'=>∃ s',o = .returned (.agg (coL (ovC C) s').toArray)∧spS B T0 T1 T2 (ovC C).ho s' w'∧k41 T2 W w'∧Below B W w'):=fun W hW=>l4over_c W C s B T0 T1 T2 (hbd.up (by omega)) hW
 have HBD:Hid (bdQ 1000 (finC C k F).ho):=by
  show bdQ 1000 _
  unfold finC
  split
  ·exact (hbd.rel true).up (by omega)
  ·split
   ·exact (hbd.del F).up (by omega)
   ·split
    ·exact hbd.up (by omega)
    ·split
     ·exact (hbd.post _).up (by omega)
     ·split
      ·exact (hbd.rel false).up (by omega)
      ·exact hbd.up (by omega)
 have HTE:Hid (0≤C.te∧C.te≤256):=hok.m.te
 have HRR:Hid (0≤C.re∧C.re≤255):=hok.m.re
 clear h hok hp hn hf hes hbd hdl;obtain⟨b1,e1,_,f1⟩:=eqB k 1
 obtain⟨b2,e2,_,f2⟩:=eqB k 2
 obtain⟨b3,e3,_,f3⟩:=eqB k 3
 obtain⟨b4,e4,_,f4⟩:=eqB k 4
 obtain⟨b5,e5,_,f5⟩:=eqB k 5
 have HFI:Hid (finC C k F=if b1=true then { C with ho:=relHo C.ho true,te:=snkZ C.te,p:=5 } else if b2=true then { C with ho:=delHo C.ho F,re:=snkZ (min C.re 128) } else if b3=true then { C with p:=5 } else if b4=true then ovC C else if b5=true then { C with ho:=relHo C.ho false,tx:=false } else C):=by
  show _=_
  unfold finC
  simp only[f1.out,f2.out,f3.out,f4.out,f5.out]
 clear f1 f2 f3 f4 f5;go_enter Tryz.func48,Tryz.ntmps48
 go_wp2_with (first | (refine wpList_load_mid (P:=Tryz.prog) rfl 41 (.tmp 3) rfl w.heap.size 0 rfl (coL (C) s) _ H0.out.p.load Tryz.underlying41 rfl (szC41L _ _) ?_))
 refine (HES.out _).mono ?_
 rintro o w1 ⟨rfl,hb1⟩;have H1:=hidX (H0.out.below hb1)
 clear H0 hb1 HES;go_upto_block 0 with fail
 go_cut [] (fun wx=>∃ s3 wz g,Hid (vG w B T2 wz g (finC C k F) s3 (finC C k F).ho s3 wx))
 case first=>
  cases b1
  case true=>
   have HR:Hid (finC C k F = { C with ho:=relHo C.ho true,te:=snkZ C.te,p:=5 }):=HFI.out
   clear HFI e2 e3 e4 e5 HDE HOV;go_wp2_with (first | (refine wpList_load_mid (P:=Tryz.prog) rfl 39 (.tmp 13) rfl w.heap.size 11 rfl (hoL (C.ho) s) _ H1.out.p.hostAt Tryz.underlying39 rfl (sz39h _ _) ?_))
   refine (HRE.out _ true H1.out.sp).mono ?_
   rintro o w2 ⟨s4,rfl,q1,q2,q3⟩;obtain⟨g,hv⟩:=H1.out.callS ⟨HO.out.1,HO.out.2.1⟩ q1 q2 q3
   have H2:=hidX hv
   clear q1 q2 q3 hv H1 HRE;go_upto_region 5 with (first | (refine wpList_store_mid (P:=Tryz.prog) rfl 39 (.tmp 16) (.tmp 15) rfl w.heap.size 11 (hoL (relHo C.ho true) s4).toArray rfl rfl (H2.out.p.there 11 _ (by rw[List.size_toArray,hoL_len,coL_len];decide)) (sz39A _ _) (hoL_one _ _) ?_;generalize hX:World.setCells w2 w.heap.size 11 _=w3;have H3:=hidG hX (H2.out.host);clear hX))
   have y9:=H3.out.p.cell 9 (.int .i64 C.te) rfl
   have z9:=H3.out.p.free 9
   have y0:=H3.out.p.cell 0 (.int .i64 C.p) rfl
   have z0:=H3.out.p.free 0
   have ht:=HTE.out
   obtain⟨bt,ebt,fbt⟩:=ltB 0 C.te
   cases bt
   ·have HT:Hid (snkZ C.te=C.te):=by
     have:¬ 0<C.te:=fun x=>by have:=fbt.out.2 x;cases this
     show snkZ _=_
     unfold snkZ
     omega
    clear fbt;go_wp2_with fail;go_meet
    case rel=>
     rw[HR.out,HT.out]
     exact⟨s4,_,g,H3.out.set 0 (.int .i64 5) { C with ho:=relHo C.ho true,p:=5 } rfl⟩
   ·have HT:Hid (snkZ C.te=C.te-1):=by
     have:=fbt.out.1 rfl
     show snkZ _=_
     unfold snkZ
     omega
    clear fbt;go_wp2_with fail;go_meet
    case rel=>
     rw[HR.out,HT.out]
     exact⟨s4,_,g,(H3.out.set 9 (.int .i64 (C.te-1)) { C with ho:=relHo C.ho true,te:=C.te-1 } rfl).set 0 (.int .i64 5) { C with ho:=relHo C.ho true,te:=C.te-1,p:=5 } rfl⟩
  cases b2
  case true=>
   have HR:Hid (finC C k F = { C with ho:=delHo C.ho F,re:=snkZ (min C.re 128) }):=HFI.out
   clear HFI e3 e4 e5 HRE HOV;go_wp2_with (first | (refine wpList_load_mid (P:=Tryz.prog) rfl 39 (.tmp 27) rfl w.heap.size 11 rfl (hoL (C.ho) s) _ H1.out.p.hostAt Tryz.underlying39 rfl (sz39h _ _) ?_) | (refine wpList_load_mid (P:=Tryz.prog) rfl 55 (.tmp 5) rfl (w.heap.size+1) 0 rfl [.bool F.e,.int .u32 (F.i:Int),.bool F.r,.int .i64 F.d,.slice fa fm fc] _ H1.out.f.load Tryz.underlying55 rfl sz93 ?_))
   refine (HDE.out _ (H1.out.b.mono HO.out.2.1) H1.out.sp).mono ?_
   rintro o w2 ⟨s4,g,rfl,q1,q2,q3⟩;have H2:=hidX (H1.out.call ⟨HO.out.1,HO.out.2.1⟩ q1 H1.out.r.lt q2 q3)
   clear q1 q2 q3 H1 HDE;go_upto_region 10 with (first | (refine wpList_store_mid (P:=Tryz.prog) rfl 39 (.tmp 31) (.tmp 30) rfl w.heap.size 11 (hoL (delHo C.ho F) s4).toArray rfl rfl (H2.out.p.there 11 _ (by rw[List.size_toArray,hoL_len,coL_len];decide)) (sz39A _ _) (hoL_one _ _) ?_;generalize hX:World.setCells w2 w.heap.size 11 _=w3;have H3:=hidG hX (H2.out.host);clear hX))
   have y9:=H3.out.p.cell 10 (.int .i64 C.re) rfl
   have z9:=H3.out.p.free 10
   have hr:=HRR.out
   obtain⟨bt,ebt,fbt⟩:=ltB 127 C.re
   cases bt
   ·have h1:¬ 127<C.re:=fun x=>by have:=fbt.out.2 x;cases this
    obtain⟨bu,ebu,fbu⟩:=ltB 0 C.re
    cases bu
    ·have HT:Hid (snkZ (min C.re 128)=C.re):=by
      have:¬ 0<C.re:=fun x=>by have:=fbu.out.2 x;cases this
      show snkZ _=_
      unfold snkZ
      omega
     clear fbt fbu h1;go_wp2_with fail;go_meet
     case rel=>
      rw[HR.out,HT.out]
      exact⟨s4,_,g,H3.out⟩
    ·have HT:Hid (snkZ (min C.re 128)=C.re-1):=by
      have:=fbu.out.1 rfl
      show snkZ _=_
      unfold snkZ
      omega
     clear fbt fbu h1;go_wp2_with fail;go_meet
     case rel=>
      rw[HR.out,HT.out]
      exact⟨s4,_,g,H3.out.set 10 (.int .i64 (C.re-1)) { C with ho:=delHo C.ho F,re:=C.re-1 } rfl⟩
   ·have HT:Hid (snkZ (min C.re 128)=127):=by
     have:=fbt.out.1 rfl
     show snkZ _=_
     unfold snkZ
     omega
    clear fbt;go_wp2_with fail;go_meet
    case rel=>
     rw[HR.out,HT.out]
     exact⟨s4,_,g,H3.out.set 10 (.int .i64 127) { C with ho:=delHo C.ho F,re:=127 } rfl⟩
  obtain⟨g,hv⟩:=H1.out.same ⟨HO.out.1,HO.out.2.1⟩
  have HV:=hidX hv
  clear hv HDE;cases b3
  case true=>
   have HR:Hid (finC C k F = { C with p:=5 }):=HFI.out
   have y0:=H1.out.p.cell 0 (.int .i64 C.p) rfl
   have z0:=H1.out.p.free 0
   clear HFI e4 e5 HRE HOV;go_wp2_with fail;go_meet
   case rel=>
    rw[HR.out]
    exact⟨s,_,g,HV.out.set 0 (.int .i64 5) { C with p:=5 } rfl⟩
  cases b4
  case true=>
   have HR:Hid (finC C k F=ovC C):=HFI.out
   clear HFI e5 HRE HV;go_wp2_with (first | (refine wpList_load_mid (P:=Tryz.prog) rfl 41 (.tmp 3) rfl w.heap.size 0 rfl (coL (C) s) _ H1.out.p.load Tryz.underlying41 rfl (szC41L _ _) ?_))
   refine (HOV.out _ H1.out.sp).mono ?_
   rintro o w2 ⟨s4,rfl,q1,q2,q3⟩;obtain⟨g',hv⟩:=H1.out.callS ⟨HO.out.1,HO.out.2.1⟩ q1 q2 q3
   have H2:=hidX hv
   clear q1 q2 q3 hv H1 HOV;go_wp2_with (first | (refine wpList_store_mid (P:=Tryz.prog) rfl 41 (.tmp 3) (.tmp 49) rfl w.heap.size 0 (coL (ovC C) s4).toArray rfl rfl (H2.out.p.there 0 _ (by rw[List.size_toArray,coL_len,coL_len];decide)) (szC41A _ _) (coL_one _ _) ?_;generalize hX:World.setCells w2 w.heap.size 0 _=w3;have H3:=hidG hX (H2.out.put (ovC C) rfl);clear hX))
   go_meet
   case rel=>
    rw[HR.out]
    exact⟨s4,_,g',H3.out⟩
  cases b5
  case true=>
   have HR:Hid (finC C k F = { C with ho:=relHo C.ho false,tx:=false }):=HFI.out
   clear HFI HOV HV;go_wp2_with (first | (refine wpList_load_mid (P:=Tryz.prog) rfl 39 (.tmp 52) rfl w.heap.size 11 rfl (hoL (C.ho) s) _ H1.out.p.hostAt Tryz.underlying39 rfl (sz39h _ _) ?_))
   refine (HRE.out _ false H1.out.sp).mono ?_
   rintro o w2 ⟨s4,rfl,q1,q2,q3⟩;obtain⟨g',hv⟩:=H1.out.callS ⟨HO.out.1,HO.out.2.1⟩ q1 q2 q3
   have H2:=hidX hv
   clear q1 q2 q3 hv H1 HRE;go_upto_region 20 with (first | (refine wpList_store_mid (P:=Tryz.prog) rfl 39 (.tmp 55) (.tmp 54) rfl w.heap.size 11 (hoL (relHo C.ho false) s4).toArray rfl rfl (H2.out.p.there 11 _ (by rw[List.size_toArray,hoL_len,coL_len];decide)) (sz39A _ _) (hoL_one _ _) ?_;generalize hX:World.setCells w2 w.heap.size 11 _=w3;have H3:=hidG hX (H2.out.host);clear hX))
   have y6:=H3.out.p.cell 6 (.bool C.tx) rfl
   have z6:=H3.out.p.free 6
   go_wp2_with fail;go_meet
   case rel=>
    rw[HR.out]
    exact⟨s4,_,g',H3.out.set 6 (.bool false) { C with ho:=relHo C.ho false,tx:=false } rfl⟩
  have HR:Hid (finC C k F=C):=HFI.out
  go_wp2_with fail;go_meet
  case rel=>
   rw[HR.out]
   exact⟨s,_,g,HV.out⟩
 case rest=>
 obtain⟨s3,wz,g,H3⟩:=hcut
 clear H1 HRE HDE HOV HFI HTE HRR e1 e2 e3 e4 e5;have HTL:=hidX (H3.out.tell HO.out.2.2 HBD.out es)
 rw[HEN.out] at HTL
 clear HEN HBD;go_wp2_with (first | (refine wpList_load_mid (P:=Tryz.prog) rfl 41 (.tmp 3) rfl w.heap.size 0 rfl (coL (finC C k F) s3) _ H3.out.p.load Tryz.underlying41 rfl (szC41L _ _) ?_))
 refine HTL.out.mono ?_
 rintro o w4 ⟨s4,rfl,hr4,hi4,hb4⟩;have HR4:=hidX hr4
 have HI4:=hidX hi4
 have HB4:=hidX hb4
 clear hr4 hi4 hb4 HTL H3;go_wp2_with (first | (refine wpList_store_mid (P:=Tryz.prog) rfl 41 (.tmp 6) (.tmp 59) rfl (w.heap.size+2) 0 (coL (actC C (finC C k F)) s4).toArray rfl rfl (HR4.out.there 0 _ (by rw[List.size_toArray,coL_len];decide)) (szC41A _ _) (coL_one _ _) ?_;generalize hW8:World.setCells w4 (w.heap.size+2) 0 _=w8;have HW8:Hid (_=w8):=hW8;clear hW8))
 have e8:=HW8.out
 have hF:blk w8 (w.heap.size+2) (coL (actC C (finC C k F)) s4) 41:=by
  rw[← e8]
  exact HR4.out.core rfl _ _
 have hL:=run_loadVar_mid (P:=Tryz.prog) w8 (w.heap.size+2) 0 41 _ _ hF.load Tryz.underlying41 rfl (szC41L _ _)
 refine bodyPost_ret (v:=.agg (coL (actC C (finC C k F)) s4).toArray) (results_cell Tryz.results48 _ w8 (w.heap.size+2) _ rfl hL) rfl ?_
 refine⟨s4,rfl,by rw[← e8];exact HI4.out,?_⟩
 rw[← e8]
 exact setCells_below (by have:=HO.out;omega) 0 _ HB4.out
structure fI (w:World) (L:List Value) (C:Co) (s:Sl) (W:World):Prop where
 p:blk W w.heap.size (coL C s) 41
 f:blk W (w.heap.size+1) L 55
 r:blk W (w.heap.size+2) Z21 41
 b:Below w.heap.size w W
theorem fI.below {w:World} {L:List Value} {C:Co} {s:Sl} {W W':World} (h:fI w L C s W) (hb:Below W.heap.size W W'):fI w L C s W':=⟨h.p.below hb,h.f.below hb,h.r.below hb,h.b.trans (hb.mono h.b.size)⟩
theorem fI.new (w:World) (C:Co) (s:Sl) (L:List Value):fI w L C s (((w.alloc (.cells (coL C s).toArray 41)).alloc (.cells L.toArray 55)).alloc (.cells Z21.toArray 41)):=by
 have n1:=blk.new w (coL C s) 41
 have n2:=blk.new (w.alloc (.cells (coL C s).toArray 41)) L 55
 have n3:=blk.new ((w.alloc (.cells (coL C s).toArray 41)).alloc (.cells L.toArray 55)) Z21 41
 have e1:(w.alloc (.cells (coL C s).toArray 41)).heap.size=w.heap.size+1:=by simp
 have e2:((w.alloc (.cells (coL C s).toArray 41)).alloc (.cells L.toArray 55)).heap.size=w.heap.size+2:=by simp
 rw[e1] at n2
 rw[e2] at n3
 exact⟨(n1.alloc _).alloc _,n2.alloc _,n3,(((Below.refl _ _).alloc (Nat.le_refl _) _).alloc (by simp) _).alloc (by simp;omega) _⟩
theorem fwB_iff (tx va:Bool) (k:Int):fwB tx va k=true↔(1≤k∧k≤5∧tx=(k == 1 || k == 5)∧(k=2→va=true)):=by
 unfold fwB
 by_cases h1:k=1
 ·subst h1;cases tx <;> simp
 by_cases h5:k=5
 ·subst h5;cases tx <;> simp
 by_cases h2:k=2
 ·subst h2;cases tx <;> cases va <;> simp
 by_cases h3:k=3
 ·subst h3;cases tx <;> simp
 by_cases h4:k=4
 ·subst h4;cases tx <;> simp
 simp only[h1,h2,h3,h4,h5,or_self,if_false]
 constructor
 ·intro h;cases h
 ·rintro⟨a,b,_⟩;omega
set_option maxRecDepth 20000 in
theorem specFinish_any (w:World) (C:Co) (s:Sl) (k:Int) (F:R5) (fa:Option Addr) (fm fc:Nat) (T:Co) (hR:okRelP (okFi C k (validB F.e F.i F.r F.d fm)) (actC C (finC C k F)) T) (h:isHo w C.ho s) (hn:C.ho.le 1048576) (hf:isBytes w fa fm fc F.l) (hfm:fm≤1048576) (hle:okCo C→(actC C (finC C k F)).ho.le 1048576) :
  Calls Tryz.prog 18 #[.agg (coL C s).toArray,.int .i64 k,frV F.e F.i F.r F.d fa fm fc] w fun o w'=>∃ s',o = .returned (.agg (coL T s').toArray)∧St w.heap.size w' (fun V=>isHo V T.ho s')∧Below w.heap.size w w':=by
 have H0:Hid (fI w [.bool F.e,.int .u32 (F.i:Int),.bool F.r,.int .i64 F.d,.slice fa fm fc] C s (((w.alloc (.cells (coL C s).toArray 41)).alloc (.cells [.bool F.e,.int .u32 (F.i:Int),.bool F.r,.int .i64 F.d,.slice fa fm fc].toArray 55)).alloc (.cells [.int .i64 0,.int .i64 0,.int .i64 0,.bool false,.bool false,.bool false,.bool false,.bool false,.int .i64 0,.int .i64 0,.int .i64 0,.int .i64 0,.int .i64 0,.int .i64 0,.int .i64 0,.slice none 0 0,.slice none 0 0,.slice none 0 0,.slice none 0 0,.int .i64 0,.int .i64 0].toArray 41))):=fI.new w C s _
 have HR:=hidX hR
 obtain⟨bo,fo,HV⟩:=l4okB w C s h hn
 have HC:Hid (∀ W,Below w.heap.size w W→Calls Tryz.prog 35 #[.agg (coL C s).toArray] W fun o w'=>∃ s' T0 T1 T2,o = .returned (.agg (coL C s').toArray)∧spS (W.heap.size+2) T0 T1 T2 C.ho s' w'∧s'.n2=C.ho.bx.length∧s'.n4=C.ho.qu.length∧Below W.heap.size W w'):=fun W hW=>l4copy_any W C s (h.below hW) hn
 obtain⟨va,eva⟩ : ∃ b,validB F.e F.i F.r F.d fm=b:=⟨_,rfl⟩
 have HVC:Hid (∀ W,Calls Tryz.prog 47 #[frV F.e F.i F.r F.d fa fm fc] W fun o w'=>o = .returned (.bool va)∧Below W.heap.size W w'):=fun W=>by
  have:=specValid_any W F.e F.i F.r F.d fa fm fc
  rw[eva] at this
  exact this
 rw[eva] at HR
 have HN:=hidX hn
 have HLE:=hidX hle
 have HFB:=hidX hf
 obtain⟨bl,el,fl⟩:=ltB k 1
 obtain⟨bg,eg,fg⟩:=ltB 5 k
 obtain⟨p1,_,d1,g1⟩:=eqB C.p 1
 obtain⟨b1,e1,_,f1⟩:=eqB k 1
 obtain⟨b2,e2,_,f2⟩:=eqB k 2
 obtain⟨b5,e5,_,f5⟩:=eqB k 5
 obtain⟨tx,etx⟩ : ∃ b,C.tx=b:=⟨_,rfl⟩
 have HOK:Hid (okFi C k va↔(bo=true∧p1=true∧bl=false∧bg=false∧tx=(b1 || b5)∧(b2 && !va)=false)):=by
  show _↔_
  unfold okFi
  rw[← fo.out,← g1.out,fwB_iff,etx,e1,e5,← f2.out]
  have i1:(bl=false)↔1≤k:=by
   constructor
   ·intro x;have:¬ k<1:=fun y=>by have:=fl.out.2 y;rw[x] at this;cases this
    omega
   ·intro x;cases hb:bl
    ·rfl
    ·have:=fl.out.1 hb;omega
  have i2:(bg=false)↔k≤5:=by
   constructor
   ·intro x;have:¬ 5<k:=fun y=>by have:=fg.out.2 y;rw[x] at this;cases this
    omega
   ·intro x;cases hb:bg
    ·rfl
    ·have:=fg.out.1 hb;omega
  rw[i1,i2]
  cases b2 <;> cases va <;> simp
 have HOC:Hid (okFi C k va→okCo C∧C.p=1):=fun x=>⟨x.1,x.2.1⟩
 clear hR h hn hf hle fo fl fg g1 f1 f2 f5;go_enter Tryz.func18,Tryz.ntmps18
 go_upto_region 1 with fail
 go_cut [23] (fun x wx=>x = .bool (!bo || !p1 || bl || bg)∧Hid (fI w [.bool F.e,.int .u32 (F.i:Int),.bool F.r,.int .i64 F.d,.slice fa fm fc] C s wx))
 case first=>
  go_wp2_with (first | (refine wpList_load_mid (P:=Tryz.prog) rfl 41 (.tmp 3) rfl w.heap.size 0 rfl (coL C s) _ H0.out.p.load Tryz.underlying41 rfl (szC41L _ _) ?_))
  refine (HV.out _ H0.out.b).mono ?_
  rintro o w1 ⟨rfl,hb1⟩;have H1:=hidX (H0.out.below hb1)
  have y0:=H1.out.p.cell 0 (.int .i64 C.p) rfl
  clear hb1 H0;cases bo <;> cases p1 <;> cases bl <;> cases bg <;> (
   go_wp2_with fail;go_meet
   case rel=>exact⟨rfl,H1.out⟩)
 case rest=>
 obtain⟨rfl,H1⟩:=hcut
 obtain⟨c,ec⟩ : ∃ b,(!bo || !p1 || bl || bg)=b:=⟨_,rfl⟩
 rw[ec]
 have HE1:=hidX ec
 clear ec H0 HV d1 el eg;cases c
 case true=>
  have HNO:Hid (¬ okFi C k va):=fun x=>by
   have h1:=HE1.out
   obtain⟨a1,a2,a3,a4,_⟩:=HOK.out.1 x
   simp[a1,a2,a3,a4] at h1
  go_wp2_with (first | (refine wpList_store_mid (P:=Tryz.prog) rfl 41 (.tmp 6) (.tmp 24) rfl (w.heap.size+2) 0 [.int .i64 0,.int .i64 0,.int .i64 0,.bool false,.bool false,.bool false,.bool false,.bool false,.int .i64 0,.int .i64 0,.int .i64 0,.int .i64 0,.int .i64 0,.int .i64 0,.int .i64 0,.slice none 0 0,.slice none 0 0,.slice none 0 0,.slice none 0 0,.int .i64 0,.int .i64 0].toArray rfl rfl (H1.out.r.there 0 21 (by simp[Z21])) szC41 (all_oneCell_toArray (by simp[Value.oneCell'])) ?_;generalize hW8:World.setCells _ (w.heap.size+2) 0 _=w8;have HW8:Hid (_=w8):=hW8;clear hW8))
  have e8:=HW8.out
  have hF:blk w8 (w.heap.size+2) (coL zCo zSl) 41:=by
   rw[← e8]
   exact H1.out.r.core rfl zCo zSl
  have hL:=run_loadVar_mid (P:=Tryz.prog) w8 (w.heap.size+2) 0 41 _ _ hF.load Tryz.underlying41 rfl (szC41L zCo zSl)
  refine bodyPost_ret (v:=.agg (coL zCo zSl).toArray) (results_cell Tryz.results18 _ w8 (w.heap.size+2) _ rfl hL) rfl ?_
  have hR:=HR.out.no HNO.out
  subst hR;refine⟨zSl,rfl,fun V _=>zHo_is V,?_⟩
  rw[← e8]
  exact setCells_below (by omega) 0 _ H1.out.b
 case false=>
 go_upto_region 3 with fail
 go_cut [7] (fun x wx=>x = .bool (b1 || b5)∧wx=wc)
 case first=>
  cases b1 <;> cases b5 <;> (
   go_wp2_with fail;go_meet
   case rel=>exact⟨rfl,rfl⟩)
 case rest=>
 obtain⟨rfl,hw⟩:=hcut
 subst hw;obtain⟨w5,ew5⟩ : ∃ b,(b1 || b5)=b:=⟨_,rfl⟩
 rw[ew5]
 rw[ew5] at HOK
 have y6:=H1.out.p.cell 6 (.bool C.tx) rfl
 rw[etx] at y6
 clear e1 e5 ew5;go_upto_region 4 with fail
 go_cut [34] (fun x wx=>x = .bool (tx != w5)∧wx=wc)
 case first=>
  cases tx <;> cases w5 <;> (
   go_wp2_with fail;go_meet
   case rel=>exact⟨rfl,rfl⟩)
 case rest=>
 obtain⟨rfl,hw⟩:=hcut
 subst hw;obtain⟨c,ec⟩ : ∃ b,(tx != w5)=b:=⟨_,rfl⟩
 rw[ec]
 have HE2:=hidX ec
 clear ec y6;cases c
 case true=>
  have HNO:Hid (¬ okFi C k va):=fun x=>by
   have h1:=HE2.out
   obtain⟨_,_,_,_,a5,_⟩:=HOK.out.1 x
   simp[a5] at h1
  go_wp2_with (first | (refine wpList_store_mid (P:=Tryz.prog) rfl 41 (.tmp 6) (.tmp 35) rfl (w.heap.size+2) 0 [.int .i64 0,.int .i64 0,.int .i64 0,.bool false,.bool false,.bool false,.bool false,.bool false,.int .i64 0,.int .i64 0,.int .i64 0,.int .i64 0,.int .i64 0,.int .i64 0,.int .i64 0,.slice none 0 0,.slice none 0 0,.slice none 0 0,.slice none 0 0,.int .i64 0,.int .i64 0].toArray rfl rfl (H1.out.r.there 0 21 (by simp[Z21])) szC41 (all_oneCell_toArray (by simp[Value.oneCell'])) ?_;generalize hW8:World.setCells _ (w.heap.size+2) 0 _=w8;have HW8:Hid (_=w8):=hW8;clear hW8))
  have e8:=HW8.out
  have hF:blk w8 (w.heap.size+2) (coL zCo zSl) 41:=by
   rw[← e8]
   exact H1.out.r.core rfl zCo zSl
  have hL:=run_loadVar_mid (P:=Tryz.prog) w8 (w.heap.size+2) 0 41 _ _ hF.load Tryz.underlying41 rfl (szC41L zCo zSl)
  refine bodyPost_ret (v:=.agg (coL zCo zSl).toArray) (results_cell Tryz.results18 _ w8 (w.heap.size+2) _ rfl hL) rfl ?_
  have hR:=HR.out.no HNO.out
  subst hR;refine⟨zSl,rfl,fun V _=>zHo_is V,?_⟩
  rw[← e8]
  exact setCells_below (by omega) 0 _ H1.out.b
 case false=>
 go_upto_region 6 with fail
 go_cut [42] (fun x wx=>x = .bool (b2 && !va)∧Hid (fI w [.bool F.e,.int .u32 (F.i:Int),.bool F.r,.int .i64 F.d,.slice fa fm fc] C s wx))
 case first=>
  cases b2
  ·go_wp2_with fail;go_meet
   case rel=>exact⟨rfl,H1.out⟩
  ·go_wp2_with (first | (refine wpList_load_midG (by first | rfl | (simp[Region.wanted,yielded];done) | (simp[Region.wanted,yielded];omega)) 55 (.tmp 5) rfl (w.heap.size+1) 0 rfl [.bool F.e,.int .u32 (F.i:Int),.bool F.r,.int .i64 F.d,.slice fa fm fc] _ H1.out.f.load Tryz.underlying55 rfl sz93 ?_))
   refine (HVC.out _).mono ?_
   rintro o w1 ⟨rfl,hb1⟩;have H2:=hidX (H1.out.below hb1)
   clear hb1;cases va <;> (
    go_wp2_with fail;go_meet
    case rel=>exact⟨rfl,H2.out⟩)
 case rest=>
 obtain⟨rfl,H2⟩:=hcut
 obtain⟨c,ec⟩ : ∃ b,(b2 && !va)=b:=⟨_,rfl⟩
 rw[ec]
 have HE3:=hidX ec
 clear ec e2 HVC H1;cases c
 case true=>
  have HNO:Hid (¬ okFi C k va):=fun x=>by
   have h1:=HE3.out
   obtain⟨_,_,_,_,_,a6⟩:=HOK.out.1 x
   rw[a6] at h1
   cases h1
  go_wp2_with (first | (refine wpList_store_mid (P:=Tryz.prog) rfl 41 (.tmp 6) (.tmp 43) rfl (w.heap.size+2) 0 [.int .i64 0,.int .i64 0,.int .i64 0,.bool false,.bool false,.bool false,.bool false,.bool false,.int .i64 0,.int .i64 0,.int .i64 0,.int .i64 0,.int .i64 0,.int .i64 0,.int .i64 0,.slice none 0 0,.slice none 0 0,.slice none 0 0,.slice none 0 0,.int .i64 0,.int .i64 0].toArray rfl rfl (H2.out.r.there 0 21 (by simp[Z21])) szC41 (all_oneCell_toArray (by simp[Value.oneCell'])) ?_;generalize hW8:World.setCells _ (w.heap.size+2) 0 _=w8;have HW8:Hid (_=w8):=hW8;clear hW8))
  have e8:=HW8.out
  have hF:blk w8 (w.heap.size+2) (coL zCo zSl) 41:=by
   rw[← e8]
   exact H2.out.r.core rfl zCo zSl
  have hL:=run_loadVar_mid (P:=Tryz.prog) w8 (w.heap.size+2) 0 41 _ _ hF.load Tryz.underlying41 rfl (szC41L zCo zSl)
  refine bodyPost_ret (v:=.agg (coL zCo zSl).toArray) (results_cell Tryz.results18 _ w8 (w.heap.size+2) _ rfl hL) rfl ?_
  have hR:=HR.out.no HNO.out
  subst hR;refine⟨zSl,rfl,fun V _=>zHo_is V,?_⟩
  rw[← e8]
  exact setCells_below (by omega) 0 _ H2.out.b
 case false=>
 have HYE:Hid (okFi C k va):=by
  refine HOK.out.2 ?_
  have h1:=HE1.out
  have h2:=HE2.out
  cases bo <;> cases p1 <;> cases bl <;> cases bg <;> simp at h1
  refine⟨rfl,rfl,rfl,rfl,?_,HE3.out⟩
  cases tx <;> cases w5 <;> simp_all
 have HCO:=hidX (HOC.out HYE.out)
 clear HE1 HE2 HE3 HOK HOC etx;go_wp2_with fail;refine wp_region_held (S:=fun X=>blk X w.heap.size (coL C s) 41∧blk X (w.heap.size+1) [.bool F.e,.int .u32 (F.i:Int),.bool F.r,.int .i64 F.d,.slice fa fm fc] 55) (by kernel_rfl) ?_
 change wpAnyH Tryz.prog _ _ _ _ _ _ _ (World.drew wc)
 have H3:=hidX (H2.out.below (Below.refl _ _).drew)
 generalize World.drew wc=v0 at *;have hS:blk v0 w.heap.size (coL C s) 41∧blk v0 (w.heap.size+1) [.bool F.e,.int .u32 (F.i:Int),.bool F.r,.int .i64 F.d,.slice fa fm fc] 55:=⟨H3.out.p,H3.out.f⟩
 clear H2;refine wU 0 (.agg (coL C s).toArray) rfl (by kernel_rfl) (yieldsIf_load_mid (by rfl) 41 _ rfl w.heap.size 0 rfl (coL C s) _ (fun X h=>h.1.load) Tryz.underlying41 rfl (szC41L _ _)) hS ?_ fun _ _ _ h=>h
 simp only[Act.put,aA,aB,aC,aD,aE]
 refine wV 2 (.int .i64 k) rfl (by kernel_rfl) ?_ hS ?_ fun _ _ _ h=>h
 ·intro W hSw;clear hS;go_simp
 simp only[Act.put,aA,aB,aC,aD,aE,aF];refine wU 3 (.agg [.bool F.e,.int .u32 (F.i:Int),.bool F.r,.int .i64 F.d,.slice fa fm fc].toArray) rfl (by kernel_rfl) (yieldsIf_load_mid (by rfl) 55 _ rfl (w.heap.size+1) 0 rfl [.bool F.e,.int .u32 (F.i:Int),.bool F.r,.int .i64 F.d,.slice fa fm fc] _ (fun X h=>h.2.load) Tryz.underlying55 rfl sz93) hS ?_ fun _ _ _ h=>h
 simp only[Act.put,aA,aB,aC,aD,aE,aF];refine wpAnyH_all (rs:=[1]) (by kernel_rfl) (by simp) ?_
 refine AllReadyH.cons rfl (fun K2 hK2=>?_) AllReadyH.nil
 go_simp;refine (HC.out v0 H3.out.b).mono ?_
 rintro o w2 ⟨s2,T0,T1,T2,rfl,e4,_,_,hb2⟩;have HD:Hid (Calls Tryz.prog 48 #[.agg (coL C s2).toArray,.int .i64 k,frV F.e F.i F.r F.d fa fm fc] w2 fun o w'=>∃ s',o = .returned (.agg (coL (actC C (finC C k F)) s').toArray)∧isHo w' (actC C (finC C k F)).ho s'∧Below (v0.heap.size+2) w2 w'):=l4doFinish_any w2 C s2 (v0.heap.size+2) T0 T1 T2 k F fa fm fc e4 HCO.out.1 HCO.out.2 HN.out (fun V hV=>HFB.out.below ((H3.out.b.trans (hb2.mono H3.out.b.size)).trans (hV.mono (by have:=H3.out.b.size;omega)))) hfm
 have H4:=hidX (H3.out.below hb2)
 have HZ2:Hid (w.heap.size+2<v0.heap.size):=H3.out.r.lt
 clear e4 hb2 H3 HC;go_wp2_with fail;refine hK2.out _ _ ⟨H4.out.p,H4.out.f⟩ (fun hS2=>?_)
 clear hK2 K2 hS;have hS:=hS2
 clear hS2;refine wpAnyH_all (rs:=[4]) (by kernel_rfl) (by simp) ?_
 refine AllReadyH.cons rfl (fun K2 hK2=>?_) AllReadyH.nil
 go_simp;refine HD.out.mono ?_
 rintro o w3 ⟨s3,rfl,q1,q2⟩;have hS5:blk w3 w.heap.size (coL C s) 41∧blk w3 (w.heap.size+1) [.bool F.e,.int .u32 (F.i:Int),.bool F.r,.int .i64 F.d,.slice fa fm fc] 55:=⟨hS.1.kept (q2.block _ (by have:=HZ2.out;omega)),hS.2.kept (q2.block _ (by have:=HZ2.out;omega))⟩
 have H5:Hid (blk w3 (w.heap.size+2) Z21 41):=H4.out.r.kept (q2.block _ (by have:=HZ2.out;omega))
 have HB3:Hid (Below w.heap.size w w3):=H4.out.b.trans (q2.mono (by have:=HZ2.out;omega))
 have HC3:=hidX (l4copy_any w3 (actC C (finC C k F)) s3 q1 (HLE.out HCO.out.1))
 clear q1 q2 H4 HD;go_wp2_with fail;refine hK2.out _ _ hS5 (fun hS2=>?_)
 clear hK2 K2 hS hS5;have hS:=hS2
 clear hS2;refine wpAnyH_all (rs:=[5]) (by kernel_rfl) (by simp) ?_
 refine AllReadyH.cons rfl (fun K2 hK2=>?_) AllReadyH.nil
 go_simp;refine HC3.out.mono ?_
 rintro o w4 ⟨s4,U0,U1,U2,rfl,e4,_,_,hb4⟩;have hS5:blk w4 w.heap.size (coL C s) 41∧blk w4 (w.heap.size+1) [.bool F.e,.int .u32 (F.i:Int),.bool F.r,.int .i64 F.d,.slice fa fm fc] 55:=⟨hS.1.below hb4,hS.2.below hb4⟩
 have HST:=hidX e4
 have HZ4:Hid (w.heap.size+2<w3.heap.size):=H5.out.lt
 have H6:=hidX (H5.out.below hb4)
 have HB4:Hid (Below w.heap.size w w4):=HB3.out.trans (hb4.mono HB3.out.size)
 clear e4 hb4 H5 HB3 HC3;go_wp2_with fail;refine hK2.out _ _ hS5 (fun hS2=>?_)
 clear hK2 K2 hS hS5;have hS:=hS2
 clear hS2;refine wpAnyH_all (rs:=[6]) (by kernel_rfl) (by simp) ?_
 refine AllReadyH.cons rfl (fun K2 hK2=>?_) AllReadyH.nil
 rw[if_pos (by rfl)]
 refine wp_store_mid 41 _ _ rfl (w.heap.size+2) 0 (coL (actC C (finC C k F)) s4).toArray rfl rfl (H6.out.there 0 _ (by rw[List.size_toArray,coL_len];decide)) (szC41A _ _) (coL_one _ _) ?_
 have hS5:blk (w4.setCells (w.heap.size+2) 0 (coL (actC C (finC C k F)) s4)) w.heap.size (coL C s) 41∧blk (w4.setCells (w.heap.size+2) 0 (coL (actC C (finC C k F)) s4)) (w.heap.size+1) [.bool F.e,.int .u32 (F.i:Int),.bool F.r,.int .i64 F.d,.slice fa fm fc] 55:=⟨hS.1.other (by omega) _ _,hS.2.other (by omega) _ _⟩
 refine hK2.out _ _ hS5 (fun hS2=>?_)
 clear hK2 K2 hS hS5 hS2;refine wpAnyH_done (by kernel_rfl) ?_ _
 simp only[Act.put]
 generalize hW8:World.setCells w4 (w.heap.size+2) 0 (coL (actC C (finC C k F)) s4)=w8
 have HW8:=hidX hW8
 clear hW8;go_wp2_with fail;have e8:=HW8.out
 have hF:blk w8 (w.heap.size+2) (coL (actC C (finC C k F)) s4) 41:=by
  rw[← e8]
  exact H6.out.core rfl _ _
 have hL:=run_loadVar_mid (P:=Tryz.prog) w8 (w.heap.size+2) 0 41 _ _ hF.load Tryz.underlying41 rfl (szC41L _ _)
 refine bodyPost_ret (v:=.agg (coL (actC C (finC C k F)) s4).toArray) (results_cell Tryz.results18 _ w8 (w.heap.size+2) _ rfl hL) rfl ?_
 have hR:=HR.out.yes HYE.out
 subst hR;refine⟨s4,rfl,fun V hV=>HST.out.isSt V (fun x h1 h2=>?_),?_⟩
 ·have hz3:=HZ4.out
  rw[hV x (by omega) (by rw[← e8,setCells_size];exact h2),← e8]
  exact setCells_other _ x (by omega) _ _ _
 ·rw[← e8]
  exact setCells_below (by omega) 0 _ HB4.out
end Go.Proofs.YtkfcfigbgmbaiaaGreat
