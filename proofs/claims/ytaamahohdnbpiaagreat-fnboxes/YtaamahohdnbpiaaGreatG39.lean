import Derived.Test.YtaamahohdnbpiaaGreatOF
import Derived.Test.YtaamahohdnbpiaaGreatOA
import Derived.Test.YtaamahohdnbpiaaGreatRB
namespace Go.Proofs.YtaamahohdnbpiaaGreat
open Go.RowKit
set_option linter.unusedVariables false
theorem okHo.n3 {H:Ho} (h:okHo H):H.ff.length≤1000:=by
 have h1:=of_decide_eq_true h.cf
 have h2:=h.nf
 omega
def freeIx (bx:List R8):Nat:=bx.findIdx (fun b=>b.x == 0)
def subHo (H:Ho) (t:Int) (F:R5):Ho:=
 if ¬ (0≤t∧t≤9999) then postHo H (ev3 5 0 1)
 else if validB F.e F.i F.r F.d F.l.length=false then postHo H (ev3 5 t 2)
 else if tagIx H.bx t<H.bx.length then postHo H (ev3 5 t 3)
 else if H.st=1000000 then postHo H (ev3 5 t 4)
 else if freeIx H.bx<H.bx.length then { H with bx:=H.bx.set (freeIx H.bx) ⟨1,t,H.st,F.e,F.i,F.r,F.d,F.l⟩,st:=H.st+1 }
 else postHo H (ev3 4 t 0)
structure sbS (w:World) (L F:List Value) (W:World):Prop where
 p:blk W w.heap.size L 35
 f:blk W (w.heap.size+1) F 25
 r:blk W (w.heap.size+1+1) Z10 35
theorem sbS.below {w:World} {L F:List Value} {W W':World} (h:sbS w L F W) (hb:Below W.heap.size W W'):sbS w L F W':=⟨h.p.below hb,h.f.below hb,h.r.below hb⟩
theorem sbS.new (w:World) (L F:List Value):sbS w L F (((w.alloc (.cells L.toArray 35)).alloc (.cells F.toArray 25)).alloc (.cells Z10.toArray 35)):=by
 refine⟨((blk.new w _ 35).alloc _).alloc _,?_,?_⟩
 ·have:=(blk.new (w.alloc (.cells L.toArray 35)) F 25).alloc (.cells Z10.toArray 35)
  simpa using this
 ·have:=blk.new ((w.alloc (.cells L.toArray 35)).alloc (.cells F.toArray 25)) Z10 35
  have e:((w.alloc (.cells L.toArray 35)).alloc (.cells F.toArray 25)).heap.size=w.heap.size+1+1:=by simp
  rw[e] at this
  exact this
theorem sp_endG {B T0 T1 T2 g4 x:Nat} {w w7 w8 V:World} {H:Ho} {s:Sl} {ev:R8} {g' n' k':Nat} (hS:spS B T0 T1 T2 H s w7) (hT2:T2≤w.heap.size) (hg4:T2≤g4) (hx:w.heap.size≤x∧x<w7.heap.size)
  (hV:∀ V:World,(∀ x,T2≤x→x<w.heap.size∨w7.heap.size≤x→x<w8.heap.size→V.heap[x]?=w8.heap[x]?)→w8.heap.size≤V.heap.size→rowQ8 T2 V.heap.size 46 g' n' k' (quP H.c3 H.qu ev) V)
  (he:∀ q,q≠g4→q<w7.heap.size→w8.heap[q]?=w7.heap[q]?) (hb:w7.heap.size≤w8.heap.size) (oth:∀ q,q≠x→V.heap[q]?=w8.heap[q]?) (hsz:V.heap.size=w8.heap.size):spS B T0 T1 T2 (postHo H ev) (qSl s g' n' k') V:=by
 have ho:=hS.o
 refine hS.post (hV _ (fun q h1 h2 h3=>oth q (by omega)) (by omega)) (fun q h1 h2=>?_) (by omega)
 rw[oth q (by omega)]
 exact he q (by omega) (by omega)
theorem bxR.putIs {B T g n k:Nat} {bx:List R8} {hs:Nat→Hd} {W V:World} (h:bxR B T g n k bx hs W) (i:Nat) (hi:i<bx.length) (b:R8) (hd:Hd) (hV:∀ x,x≠g→B≤x→x<T→V.heap[x]?=W.heap[x]?) (hg:V.heap[g]?=(setRow W g (i*8) (x8 (b,hd))).heap[g]?) (hb:isBytes V hd.1 hd.2.1 hd.2.2 b.l):isR8s V (some ⟨g,0,none⟩) n k (bx.set i b):=by
 have hln:=h.len
 refine⟨by rw[List.length_set];exact h.len,h.cap,fun _=>⟨g,0,rfl,fun j hj=>?_⟩⟩
 have hj':j<bx.length:=by simpa using hj
 by_cases e:j=i
 ·subst e;rw[List.getElem_set_self]
  refine⟨hd.1,hd.2.1,hd.2.2,?_⟩
  rw[Nat.zero_add]
  refine x8_at8 (rangeAt.up ?_ hg) hb
  intro t u hu;have ht:t<(x8 (b,hd)).length:=(List.getElem?_eq_some_iff.mp hu).1
  have ht8:t<8:=by simpa[x8] using ht
  rw[setRow_at g _ _ _ t ht ((h.row (j*8+t) (by omega)).1)]
  rw[List.getElem?_eq_getElem ht] at hu
  exact hu
 ·rw[List.getElem_set_ne (fun x=>e x.symm)]
  refine⟨(hs j).1,(hs j).2.1,(hs j).2.2,?_⟩
  rw[Nat.zero_add]
  refine x8_at8 (rangeAt.up ?_ hg) ?_
  ·intro t u hu;have ht:t<8:=by have:=(List.getElem?_eq_some_iff.mp hu).1;simpa[x8] using this
   rw[setRow_other g _ _ _ _ (by simp[x8];omega)]
   exact h.rng j hj' t u hu
  ·obtain⟨h1,h2⟩:=h.dat j hj'
   rcases h2 with⟨e1,e2⟩|⟨b',e1,e2,e3,e4⟩
   ·exact h1.none0 e2
   ·rw[e1] at h1 ⊢
    exact h1.other (hV b' e4 e2 e3)
theorem spS.isSt {B T0 T1 T2:Nat} {H:Ho} {s:Sl} {W:World} (h:spS B T0 T1 T2 H s W):St B W (fun V=>isHo V H s):=fun V hV=>by
 obtain⟨o1,o2,o3,o4⟩:=h.o
 obtain⟨gf,e1,h1a,h1b,h1⟩:=h.f
 obtain⟨gb,hs,e2,h2⟩:=h.x
 obtain⟨gq,e3,h3⟩:=h.r
 obtain⟨g4,e4,h4⟩:=h.q
 refine⟨?_,?_,?_,?_⟩
 ·rw[e1];exact h1.same (hV gf h1a (by omega))
 ·rw[e2];exact (h2.st fun x h1 h2=>hV x (by omega) (by omega)).is
 ·rw[e3];exact (h3.keep fun x h1 h2=>hV x (by omega) (by omega)).is
 ·rw[e4];exact (h4.keep fun x h1 h2=>hV x (by omega) h2).is
abbrev xHo (H:Ho) (bx:List R8) (st:Int):Ho:={ H with bx:=bx,st:=st }
theorem spS.put {B T0 T1 T2 gb:Nat} {H:Ho} {s:Sl} {W V:World} {hs:Nat→Hd} (h:spS B T0 T1 T2 H s W) (e2:s.a2=some ⟨gb,0,none⟩) (hx:bxR T0 T1 gb s.n2 s.k2 H.bx hs W) (i:Nat) (hi:i<H.bx.length) (b:R8) (hd:Hd) (st:Int) (T:Nat) (hT:T2≤T) (hq:∃ g4,s.a4=some ⟨g4,0,none⟩∧rowQ8 T2 T 46 g4 s.n4 s.k4 H.qu W) (hV:∀ x,x≠gb→B≤x→x<T→V.heap[x]?=W.heap[x]?) (hg:V.heap[gb]?=(setRow W gb (i*8) (x8 (b,hd))).heap[gb]?) (hb:isBytes V hd.1 hd.2.1 hd.2.2 b.l):isHo V (xHo H (H.bx.set i b) st) s:=by
 obtain⟨o1,o2,o3,o4⟩:=h.o
 obtain⟨gf,e1,h1a,h1b,h1⟩:=h.f
 obtain⟨gq,e3,h3⟩:=h.r
 obtain⟨g4,e4,h4⟩:=hq
 have hl:=hx.lo
 have hh:=hx.hi
 refine⟨?_,?_,?_,?_⟩
 ·rw[e1];exact h1.same (hV gf (by omega) (by omega) (by omega))
 ·rw[e2];exact hx.putIs i hi b hd (fun x h1 h2 h3=>hV x h1 (by omega) (by omega)) hg hb
 ·rw[e3];exact (h3.keep fun x h1 h2=>hV x (by omega) (by omega) (by omega)).is
 ·rw[e4];exact (h4.keep fun x h1 h2=>hV x (by omega) (by omega) h2).is
set_option maxHeartbeats 8000000 in
set_option maxRecDepth 20000 in
theorem l3doSubmit_any (B T0 T1 T2:Nat) (w:World) (H:Ho) (s:Sl) (t:Int) (F:R5) (fa:Option Addr) (fm fc:Nat) (h:spS B T0 T1 T2 H s w) (hn2:s.n2≤1000) (hn4:s.n4≤1000) (hlo:0≤H.lo∧H.lo≤100000) (hst:0≤H.st∧H.st≤1000000) (hf:isBytes w fa fm fc F.l) (hfm:fm≤1048576) :
  Calls Tryz.prog 73 #[.agg (hoL H s).toArray,.int .i64 t,frV F.e F.i F.r F.d fa fm fc] w fun o w'=>∃ s',o = .returned (.agg (hoL (subHo H t F) s').toArray)∧St B w' (fun V=>isHo V (subHo H t F) s')∧Below B w w':=by
 have HA:Hid (sbS w (hoL H s) [.bool F.e,.int .u32 (F.i:Int),.bool F.r,.int .i64 F.d,.slice fa fm fc] (((w.alloc (.cells (hoL H s).toArray 35)).alloc (.cells [.bool F.e,.int .u32 (F.i:Int),.bool F.r,.int .i64 F.d,.slice fa fm fc].toArray 25)).alloc (.cells [.int .i64 0,.int .i64 0,.int .i64 0,.int .i64 0,.slice none 0 0,.slice none 0 0,.slice none 0 0,.slice none 0 0,.int .i64 0,.int .i64 0].toArray 35))):=sbS.new w _ _
 have HBA:Hid (Below w.heap.size w (((w.alloc (.cells (hoL H s).toArray 35)).alloc (.cells [.bool F.e,.int .u32 (F.i:Int),.bool F.r,.int .i64 F.d,.slice fa fm fc].toArray 25)).alloc (.cells [.int .i64 0,.int .i64 0,.int .i64 0,.int .i64 0,.slice none 0 0,.slice none 0 0,.slice none 0 0,.slice none 0 0,.int .i64 0,.int .i64 0].toArray 35))):=(((Below.refl _ _).alloc (Nat.le_refl _) _).alloc (by simp) _).alloc (by simp;omega) _
 have HS0:Hid (spS B T0 T1 T2 H s w):=h
 have HZ0:Hid (B≤w.heap.size):=by have:=h.o;show _≤_;omega
 obtain⟨g4,e4,hq4⟩:=h.q
 have HE4:Hid (s.a4=some ⟨g4,0,none⟩∧g4<w.heap.size∧T2≤g4):=⟨e4,hq4.ghi,hq4.glt⟩
 have HQ0:Hid (rowQ8 T2 w.heap.size 46 g4 s.n4 s.k4 H.qu w):=hq4
 have HFD:Hid (isBytes w fa fm fc F.l):=hf
 have HFL:Hid (fm=F.l.length):=hf.len
 clear h e4 hq4 hf;by_cases ht:0≤t∧t≤9999
 ·have ht1:decide (t<0)=false:=by simpa using ht.1
  have ht2:decide (9999<t)=false:=by simpa using ht.2
  have HVF:Hid (∀ W,Calls Tryz.prog 52 #[frV F.e F.i F.r F.d fa fm fc] W fun o w'=>o = .returned (.bool (validB F.e F.i F.r F.d fm))∧Below W.heap.size W w'):=fun W=>specValid_any W _ _ _ _ _ _ _
  have HBA1:Hid (sbS w (hoL H s) [.bool F.e,.int .u32 (F.i:Int),.bool F.r,.int .i64 F.d,.slice fa fm fc] (((w.alloc (.cells (hoL H s).toArray 35)).alloc (.cells [.bool F.e,.int .u32 (F.i:Int),.bool F.r,.int .i64 F.d,.slice fa fm fc].toArray 25)).alloc (.cells [.int .i64 0,.int .i64 0,.int .i64 0,.int .i64 0,.slice none 0 0,.slice none 0 0,.slice none 0 0,.slice none 0 0,.int .i64 0,.int .i64 0].toArray 35))):=HA.out
  go_enter Tryz.func73,Tryz.ntmps73
  go_wp2_with (first | (refine wpList_load_mid (P:=Tryz.prog) rfl 25 _ rfl (w.heap.size+1) 0 rfl [.bool F.e,.int .u32 (F.i:Int),.bool F.r,.int .i64 F.d,.slice fa fm fc] _ HA.out.f.load Tryz.underlying25 rfl sz93 ?_))
  refine (HVF.out _).mono ?_
  rintro o w1 ⟨rfl,hb1⟩;have HBW:Hid (Below w.heap.size w w1):=HBA.out.trans (hb1.mono HBA.out.size)
  have HB:Hid (sbS w (hoL H s) [.bool F.e,.int .u32 (F.i:Int),.bool F.r,.int .i64 F.d,.slice fa fm fc] w1):=HA.out.below hb1
  have HS:Hid (spS B T0 T1 T2 H s w1):=HS0.out.below HBW.out
  have HQ:Hid (rowQ8 T2 w.heap.size 46 g4 s.n4 s.k4 H.qu w1):=HQ0.out.keep fun x _ h2=>HBW.out.block x h2
  have HA1:Hid (Below (((w.alloc (.cells (hoL H s).toArray 35)).alloc (.cells [.bool F.e,.int .u32 (F.i:Int),.bool F.r,.int .i64 F.d,.slice fa fm fc].toArray 25)).alloc (.cells [.int .i64 0,.int .i64 0,.int .i64 0,.int .i64 0,.slice none 0 0,.slice none 0 0,.slice none 0 0,.slice none 0 0,.int .i64 0,.int .i64 0].toArray 35)).heap.size (((w.alloc (.cells (hoL H s).toArray 35)).alloc (.cells [.bool F.e,.int .u32 (F.i:Int),.bool F.r,.int .i64 F.d,.slice fa fm fc].toArray 25)).alloc (.cells [.int .i64 0,.int .i64 0,.int .i64 0,.int .i64 0,.slice none 0 0,.slice none 0 0,.slice none 0 0,.slice none 0 0,.int .i64 0,.int .i64 0].toArray 35)) w1):=hb1
  clear hb1 HBA1;by_cases hv:validB F.e F.i F.r F.d fm=true
  ·rw[hv]
   go_wp2_with (first | (refine wpList_load_mid (P:=Tryz.prog) rfl 35 _ rfl w.heap.size 0 rfl (hoL H s) _ HB.out.p.load Tryz.underlying35 rfl (sz41L H s) ?_))
   refine (l3find_any w1 H s t HS.out.is.bx hn2).mono ?_
   rintro o w2 ⟨r,rfl,hr,hb2⟩;have hR:=hr.tag
   have HA2:Hid (Below (((w.alloc (.cells (hoL H s).toArray 35)).alloc (.cells [.bool F.e,.int .u32 (F.i:Int),.bool F.r,.int .i64 F.d,.slice fa fm fc].toArray 25)).alloc (.cells [.int .i64 0,.int .i64 0,.int .i64 0,.int .i64 0,.slice none 0 0,.slice none 0 0,.slice none 0 0,.slice none 0 0,.int .i64 0,.int .i64 0].toArray 35)).heap.size (((w.alloc (.cells (hoL H s).toArray 35)).alloc (.cells [.bool F.e,.int .u32 (F.i:Int),.bool F.r,.int .i64 F.d,.slice fa fm fc].toArray 25)).alloc (.cells [.int .i64 0,.int .i64 0,.int .i64 0,.int .i64 0,.slice none 0 0,.slice none 0 0,.slice none 0 0,.slice none 0 0,.int .i64 0,.int .i64 0].toArray 35)) w2):=HA1.out.trans (hb2.mono HA1.out.size)
   clear HBW HB HS HQ hr hb2;have HBW:Hid (Below w.heap.size w w2):=HBA.out.trans (HA2.out.mono HBA.out.size)
   have HB:Hid (sbS w (hoL H s) [.bool F.e,.int .u32 (F.i:Int),.bool F.r,.int .i64 F.d,.slice fa fm fc] w2):=HA.out.below HA2.out
   have HS:Hid (spS B T0 T1 T2 H s w2):=HS0.out.below HBW.out
   have HQ:Hid (rowQ8 T2 w.heap.size 46 g4 s.n4 s.k4 H.qu w2):=HQ0.out.keep fun x _ h2=>HBW.out.block x h2
   have HV:Hid (validB F.e F.i F.r F.d F.l.length=true):=by show _=_;rw[← HFL.out];exact hv
   clear HA1 HVF;rcases hR with⟨rfl,hno⟩|⟨rfl,hk⟩
   ·have x9:w2.cell? ⟨w.heap.size,9,none⟩=some (.int .i64 H.st):=HB.out.p.cell 9 _ rfl
    by_cases h9:H.st=1000000
    ·have HRL:Hid (subHo H t F=postHo H (ev3 5 t 4)):=by
      show _=_
      unfold subHo
      rw[if_neg (fun h=>h ht),if_neg (by rw[HV.out];simp),if_neg hno,if_pos h9]
     rw[h9] at x9
     go_wp2_with (first | (refine wpList_load_mid (P:=Tryz.prog) rfl 35 _ rfl w.heap.size 0 rfl (hoL H s) _ HB.out.p.load Tryz.underlying35 rfl (sz41L H s) ?_))
     refine (l3say_q w2 H s T2 w.heap.size g4 5 t 4 HE4.out.1 HQ.out (by have:=HS.out.o;omega) hn4 hlo).mono ?_
     rintro o w8 ⟨g',n',k',rfl,hV,ho8,hb8⟩;have HR8:Hid (blk w8 (w.heap.size+1+1) Z10 35):=HB.out.r.kept (ho8 _ (by have:=HE4.out.2;omega) HB.out.r.lt)
     have HE8:Hid (∀ L:List Value,spS B T0 T1 T2 (postHo H (ev3 5 t 4)) (qSl s g' n' k') (w8.setCells (w.heap.size+1+1) 0 L)):=fun L=>sp_endG HS.out HS0.out.o.2.2.2 HE4.out.2.2 ⟨by omega,HB.out.r.lt⟩ hV ho8 hb8.size (fun q hq=>setCells_other _ q hq _ _ _) (setCells_size ..)
     have HB8:Hid (Below B w w8):=(HBW.out.mono HZ0.out).trans (hb8.mono (by have:=HS0.out.o;omega))
     clear hV ho8 hb8;go_wp2_with (first
      | (refine wpList_store_mid (P:=Tryz.prog) rfl 35 _ _ rfl (w.heap.size+1+1) 0 (hoL (postHo H (ev3 5 t 4)) (qSl s g' n' k')).toArray rfl rfl (HR8.out.there 0 _ (by rw[List.size_toArray,hoL_len];decide)) (sz41A _ _) (hoL_one _ _) ?_;generalize hW9:World.setCells _ (w.heap.size+1+1) 0 _=w9;have HW9:Hid (_=w9):=hW9;clear hW9))
     have e9:=HW9.out
     have hF:blk w9 (w.heap.size+1+1) (hoL (postHo H (ev3 5 t 4)) (qSl s g' n' k')) 35:=by
      rw[← e9]
      have:=blk.put [] Z10 [] (hoL (postHo H (ev3 5 t 4)) (qSl s g' n' k')) (w:=w8) (b:=w.heap.size+1+1) (T:=35) (by simpa using HR8.out) (by rw[hoL_len];rfl)
      simpa using this
     have hL:=run_loadVar_mid (P:=Tryz.prog) w9 (w.heap.size+1+1) 0 35 _ _ hF.load Tryz.underlying35 rfl (sz41L _ _)
     refine bodyPost_ret (v:=.agg (hoL (postHo H (ev3 5 t 4)) (qSl s g' n' k')).toArray) (results_cell Tryz.results73 _ w9 (w.heap.size+1+1) _ rfl hL) rfl ?_
     rw[HRL.out]
     refine⟨_,rfl,?_,?_⟩
     ·rw[← e9];exact (HE8.out _).isSt
     ·rw[← e9];exact setCells_below (by have:=HZ0.out;omega) 0 _ HB8.out
    ·have h9':(H.st == 1000000)=false:=by simpa using h9
     have HRL0:Hid (subHo H t F=if freeIx H.bx<H.bx.length then { H with bx:=H.bx.set (freeIx H.bx) ⟨1,t,H.st,F.e,F.i,F.r,F.d,F.l⟩,st:=H.st+1 } else postHo H (ev3 4 t 0)):=by
      show _=_
      unfold subHo
      rw[if_neg (fun h=>h ht),if_neg (by rw[HV.out];simp),if_neg hno,if_neg h9]
     obtain⟨gb,hs0,e2,hxw⟩:=HS0.out.x
     have HE2:Hid (s.a2=some ⟨gb,0,none⟩):=e2
     have HXW:Hid (bxR T0 T1 gb s.n2 s.k2 H.bx hs0 w):=hxw
     have HGL:Hid (gb<w.heap.size):=by
      have:=hxw.hi
      have:=HS0.out.o
      show _<_
      omega
     have HX5:Hid (∀ X,sbS w (hoL H s) [.bool F.e,.int .u32 (F.i:Int),.bool F.r,.int .i64 F.d,.slice fa fm fc] X→X.cell? ⟨w.heap.size,5,none⟩=some (.slice (some ⟨gb,0,none⟩) s.n2 s.k2)):=fun X hX=>by
      have:=hX.p.cell 5 _ (by unfold hoL;rfl)
      rw[HE2.out] at this
      exact this
     have x5:=HX5.out w2 HB.out
     have hln:=hxw.len
     have hcp:=hxw.cap
     have HX2:Hid (bxR T0 T1 gb s.n2 s.k2 H.bx hs0 w2):=hxw.st fun x _ hx=>HBW.out.block x (by have:=HS0.out.o;omega)
     have HO:Hid (T0≤T1∧T1≤T2∧T2≤w.heap.size∧w.heap.size+1+1<w2.heap.size):=⟨HS0.out.o.2.1,HS0.out.o.2.2.1,HS0.out.o.2.2.2,HB.out.r.lt⟩
     have HLN:Hid (s.n2=H.bx.length):=hln
     clear e2 hxw hln;go_wp2_with fail;go_loopw [7] (fun i wr=>∃ k:Nat,k≤s.n2∧i = .int .i64 (k:Int)∧(∀ j (hj:j<H.bx.length),j<k→H.bx[j].x≠0)∧wr=w2) (fun i _=>s.n2-(intOf i).toNat)
     case atStart=>exact⟨0,Nat.zero_le _,rfl,fun j hj h=>absurd h (Nat.not_lt_zero _),rfl⟩
     case round=>
      obtain⟨k,hk,rfl,hdone,rfl⟩:=hrel
      have HDN:Hid (∀ j (hj:j<H.bx.length),j<k→H.bx[j].x≠0):=hdone
      clear hdone;by_cases hlt:k<s.n2
      ·have hkl:k<H.bx.length:=by have:=HLN.out;omega
       have HKK:Hid (k<H.bx.length):=hkl
       have y0:wr.cell? ⟨gb,k*8,none⟩=some (.int .i64 H.bx[k].x):=HX2.out.rng k hkl 0 _ rfl
       by_cases hx0:H.bx[k].x=0
       ·rw[hx0] at y0
        have HRK:Hid (subHo H t F=xHo H (H.bx.set k ⟨1,t,H.st,F.e,F.i,F.r,F.d,F.l⟩) (H.st+1)):=by
         have e:freeIx H.bx=k:=by
          unfold freeIx
          rw[List.findIdx_eq hkl]
          exact⟨by simp only[beq_iff_eq];exact hx0,fun j hj=>by simpa using HDN.out j (by omega) hj⟩
         show _=_
         rw[HRL0.out,e,if_pos hkl]
        clear hkl;go_wp2_with fail;refine wp_region_held (S:=fun X=>sbS w (hoL H s) [.bool F.e,.int .u32 (F.i:Int),.bool F.r,.int .i64 F.d,.slice fa fm fc] X) (by kernel_rfl) ?_
        have hS:sbS w (hoL H s) [.bool F.e,.int .u32 (F.i:Int),.bool F.r,.int .i64 F.d,.slice fa fm fc] (World.drew wr):=HB.out.below (Below.refl _ _).drew
        have HV0:Hid (Below w.heap.size w (World.drew wr)):=HBW.out.drew
        have HXV:Hid (bxR T0 T1 gb s.n2 s.k2 H.bx hs0 (World.drew wr)):=HX2.out.st fun _ _ _=>rfl
        have HFV:Hid (isBytes (World.drew wr) fa fm fc F.l):=HFD.out.below HV0.out
        have HO:Hid (T0≤T1∧T1≤T2∧T2≤w.heap.size∧w.heap.size+1+1<(World.drew wr).heap.size):=HO.out
        change wpAnyH Tryz.prog _ _ _ _ _ _ _ (World.drew wr)
        generalize World.drew wr=v0 at *;clear x5 x9 y0;refine wT (i:=0) (v:=.pointer (some ⟨w.heap.size,5,none⟩)) rfl (by kernel_rfl) (by kernel_rfl) (by kernel_rfl) (fun _ _ _ h=>h) (Or.inl ⟨by rfl,?_⟩) hS ?_
        ·intro W hSw;clear hS;go_simp
        simp only[Act.put,aA,aB,aC,aD,aE]
        refine wT (i:=1) (v:=.slice (some ⟨gb,0,none⟩) s.n2 s.k2) rfl (by kernel_rfl) (by kernel_rfl) (by kernel_rfl) (fun _ _ _ h=>h) (Or.inl ⟨by rfl,?_⟩) hS ?_
        ·intro W hSw;clear hS;have x5:=HX5.out W hSw;go_simp
        simp only[Act.put,aA,aB,aC,aD,aE,aF];refine wT (i:=2) (v:=.int .i64 (k:Int)) rfl (by kernel_rfl) (by kernel_rfl) (by kernel_rfl) (fun _ _ _ h=>h) (Or.inl ⟨by rfl,?_⟩) hS ?_
        ·intro W hSw;clear hS;go_simp
        simp only[Act.put,aA,aB,aC,aD,aE,aF];refine wT (i:=3) (v:=.int .i64 t) rfl (by kernel_rfl) (by kernel_rfl) (by kernel_rfl) (fun _ _ _ h=>h) (Or.inl ⟨by rfl,?_⟩) hS ?_
        ·intro W hSw;clear hS;go_simp
        simp only[Act.put,aA,aB,aC,aD,aE,aF];refine wT (i:=4) (v:=.pointer (some ⟨w.heap.size,9,none⟩)) rfl (by kernel_rfl) (by kernel_rfl) (by kernel_rfl) (fun _ _ _ h=>h) (Or.inl ⟨by rfl,?_⟩) hS ?_
        ·intro W hSw;clear hS;go_simp
        simp only[Act.put,aA,aB,aC,aD,aE,aF];refine wT (i:=5) (v:=.int .i64 H.st) rfl (by kernel_rfl) (by kernel_rfl) (by kernel_rfl) (fun _ _ _ h=>h) (Or.inl ⟨by rfl,?_⟩) hS ?_
        ·intro W hSw;clear hS;have x9:=hSw.p.cell 9 _ rfl;go_simp
        simp only[Act.put,aA,aB,aC,aD,aE,aF];refine wT (i:=6) (v:=.agg [.bool F.e,.int .u32 (F.i:Int),.bool F.r,.int .i64 F.d,.slice fa fm fc].toArray) rfl (by kernel_rfl) (by kernel_rfl) (by kernel_rfl) (fun _ _ _ h=>h) (yieldsIf_load_mid (by rfl) 25 _ rfl (w.heap.size+1) 0 rfl [.bool F.e,.int .u32 (F.i:Int),.bool F.r,.int .i64 F.d,.slice fa fm fc] _ (fun X h=>h.f.load) Tryz.underlying25 rfl sz93) hS ?_
        simp only[Act.put,aA,aB,aC,aD,aE,aF];refine wpAnyH_all (rs:=[7]) (by kernel_rfl) (by simp) ?_
        refine AllReadyH.cons rfl (fun K2 hK2=>?_) AllReadyH.nil
        go_simp;refine (l1copyFrame_any v0 F.e F.i F.r F.d fa fm fc F.l HFV.out hfm).mono ?_
        rintro o v1 ⟨gd,kd,rfl,⟨q1,q2,q3,q4⟩,hb1⟩;have hS5:sbS w (hoL H s) [.bool F.e,.int .u32 (F.i:Int),.bool F.r,.int .i64 F.d,.slice fa fm fc] v1:=hS.below hb1
        have HD1:Hid (v0.heap.size≤gd∧gd<v1.heap.size∧isBytes v1 (some ⟨gd,0,none⟩) fm kd F.l):=⟨q1,q2,q3.now⟩
        have HB1:Hid (Below v0.heap.size v0 v1):=hb1
        clear q1 q2 q3 q4 hb1;go_wp2_with fail;refine hK2.out _ _ hS5 (fun hS2=>?_)
        clear hK2 K2 hS5 hS;have hS:=hS2
        clear hS2;refine wT (i:=8) (v:=.agg [.int .i64 1,.int .i64 t,.int .i64 H.st,.bool F.e,.int .u32 (F.i:Int),.bool F.r,.int .i64 F.d,.slice (some ⟨gd,0,none⟩) fm kd].toArray) rfl (by kernel_rfl) (by kernel_rfl) (by kernel_rfl) (fun _ _ _ h=>h) (Or.inl ⟨by rfl,?_⟩) hS ?_
        ·intro W hSw;clear hS;go_simp
        simp only[Act.put,aA,aB,aC,aD,aE,aF];refine wT (i:=9) (v:=.pointer (some ⟨gb,k*8,none⟩)) rfl (by kernel_rfl) (by kernel_rfl) (by kernel_rfl) (fun _ _ _ h=>h) (Or.inl ⟨by rfl,?_⟩) hS ?_
        ·intro W hSw;clear hS;go_simp
        simp only[Act.put,aA,aB,aC,aD,aE,aF];have HX1:Hid (bxR T0 T1 gb s.n2 s.k2 H.bx hs0 v1):=HXV.out.st fun x _ hx=>HB1.out.block x (by have:=HO.out;omega)
        refine wpAnyH_all (rs:=[10]) (by kernel_rfl) (by simp) ?_
        refine AllReadyH.cons rfl (fun K2 hK2=>?_) AllReadyH.nil
        rw[if_pos (by rfl)]
        refine wp_store_mid 97 _ _ rfl gb (k*8) [.int .i64 1,.int .i64 t,.int .i64 H.st,.bool F.e,.int .u32 (F.i:Int),.bool F.r,.int .i64 F.d,.slice (some ⟨gd,0,none⟩) fm kd].toArray rfl rfl (HX1.out.there k HKK.out) sz95 (one8 _ _ _ _ _ _ _ _ _ _) ?_
        have hS5:sbS w (hoL H s) [.bool F.e,.int .u32 (F.i:Int),.bool F.r,.int .i64 F.d,.slice fa fm fc] (v1.setCells gb (k*8) [.int .i64 1,.int .i64 t,.int .i64 H.st,.bool F.e,.int .u32 (F.i:Int),.bool F.r,.int .i64 F.d,.slice (some ⟨gd,0,none⟩) fm kd]):=⟨hS.p.other (by have:=HGL.out;omega) _ _,hS.f.other (by have:=HGL.out;omega) _ _,hS.r.other (by have:=HGL.out;omega) _ _⟩
        refine hK2.out _ _ hS5 (fun hS2=>?_)
        clear hK2 K2 hS5 hS;have HB2:Hid (sbS w (hoL H s) [.bool F.e,.int .u32 (F.i:Int),.bool F.r,.int .i64 F.d,.slice fa fm fc] (v1.setCells gb (k*8) [.int .i64 1,.int .i64 t,.int .i64 H.st,.bool F.e,.int .u32 (F.i:Int),.bool F.r,.int .i64 F.d,.slice (some ⟨gd,0,none⟩) fm kd])):=hS2
        clear hS2;refine wpAnyH_done (by kernel_rfl) ?_ _
        simp only[Act.put]
        generalize hV2:v1.setCells gb (k*8) [.int .i64 1,.int .i64 t,.int .i64 H.st,.bool F.e,.int .u32 (F.i:Int),.bool F.r,.int .i64 F.d,.slice (some ⟨gd,0,none⟩) fm kd]=v2 at *;have HV2:Hid (v1.setCells gb (k*8) [.int .i64 1,.int .i64 t,.int .i64 H.st,.bool F.e,.int .u32 (F.i:Int),.bool F.r,.int .i64 F.d,.slice (some ⟨gd,0,none⟩) fm kd]=v2):=hV2
        clear hV2;have x9:=HB2.out.p.cell 9 _ rfl
        have z9:=HB2.out.p.free 9
        have hw9:IntKind.i64.wrap (H.st+1)=H.st+1:=by rw[IntKind.wrap_i64];omega
        have HB3:Hid (blk (v2.setCell ⟨w.heap.size,9,none⟩ (.int .i64 (H.st+1))) w.heap.size (hoL (xHo H (H.bx.set k ⟨1,t,H.st,F.e,F.i,F.r,F.d,F.l⟩) (H.st+1)) s) 35):=HB2.out.p.set 9 _
        have HR3:Hid (blk (v2.setCell ⟨w.heap.size,9,none⟩ (.int .i64 (H.st+1))) (w.heap.size+1+1) Z10 35):=HB2.out.r.setOther (by omega) _ _
        go_wp2_with (first
         | (refine wpList_load_mid (P:=Tryz.prog) rfl 35 _ rfl w.heap.size 0 rfl (hoL (xHo H (H.bx.set k ⟨1,t,H.st,F.e,F.i,F.r,F.d,F.l⟩) (H.st+1)) s) _ HB3.out.load Tryz.underlying35 rfl (sz41L _ _) ?_)
         | (refine wpList_store_mid (P:=Tryz.prog) rfl 35 _ _ rfl (w.heap.size+1+1) 0 (hoL (xHo H (H.bx.set k ⟨1,t,H.st,F.e,F.i,F.r,F.d,F.l⟩) (H.st+1)) s).toArray rfl rfl (HR3.out.there 0 _ (by rw[List.size_toArray,hoL_len];decide)) (sz41A _ _) (hoL_one _ _) ?_;generalize hW9:World.setCells _ (w.heap.size+1+1) 0 _=w9;have HW9:Hid (_=w9):=hW9;clear hW9))
        have e9:=HW9.out
        have hF:blk w9 (w.heap.size+1+1) (hoL (xHo H (H.bx.set k ⟨1,t,H.st,F.e,F.i,F.r,F.d,F.l⟩) (H.st+1)) s) 35:=by
         rw[← e9]
         have:=blk.put [] Z10 [] (hoL (xHo H (H.bx.set k ⟨1,t,H.st,F.e,F.i,F.r,F.d,F.l⟩) (H.st+1)) s) (b:=w.heap.size+1+1) (T:=35) (by simpa using HR3.out) (by rw[hoL_len];rfl)
         rw[List.nil_append,List.append_nil] at this
         exact this
        have hL:=run_loadVar_mid (P:=Tryz.prog) w9 (w.heap.size+1+1) 0 35 _ _ hF.load Tryz.underlying35 rfl (sz41L _ _)
        refine bodyPost_ret (v:=.agg (hoL (xHo H (H.bx.set k ⟨1,t,H.st,F.e,F.i,F.r,F.d,F.l⟩) (H.st+1)) s).toArray) (results_cell Tryz.results73 _ w9 (w.heap.size+1+1) _ rfl hL) rfl ?_
        rw[HRK.out]
        have ho:=HO.out
        have hgl:=HGL.out
        have hd1:=HD1.out
        have h9o:∀ x,x≠w.heap.size→x≠w.heap.size+1+1→w9.heap[x]?=v2.heap[x]?:=fun x h1 h2=>by
         rw[← e9,setCells_other _ x h2]
         exact heap_setCell_other _ _ _ _ (by exact h1)
        have hbv1:Below w.heap.size w v1:=HV0.out.trans (HB1.out.mono HV0.out.size)
        have hob:=HS0.out.o
        have hsz9:w9.heap.size=v1.heap.size:=by
         rw[← e9,setCells_size,← HV2.out]
         simp[setCells_size]
        refine⟨s,rfl,fun V hV=>(HS0.out.below hbv1).put HE2.out HX1.out k HKK.out ⟨1,t,H.st,F.e,F.i,F.r,F.d,F.l⟩ (some ⟨gd,0,none⟩,fm,kd) (H.st+1) w.heap.size HS0.out.o.2.2.2 ⟨g4,HE4.out.1,HQ0.out.keep fun x _ hx=>hbv1.block x hx⟩ (fun x h1 h2 h3=>?_) ?_ ?_,?_⟩
        ·rw[hV x h2 (by omega),h9o x (by omega) (by omega),← HV2.out,setCells_other _ x h1]
        ·have hl0:=HX1.out.lo
         rw[hV gb (by omega) (by omega),h9o gb (by omega) (by omega),← HV2.out,setCells_row]
         rfl
        ·exact HD1.out.2.2.other (by rw[hV gd (by omega) (by omega),h9o gd (by omega) (by omega),← HV2.out];exact setCells_other _ gd (by omega) _ _ _)
        ·rw[← e9]
         refine setCells_below (by have:=HZ0.out;omega) 0 _ (Below.setCell ?_ (by exact HZ0.out) _)
         rw[← HV2.out]
         exact setCells_below (by have h1:=HXW.out.lo;have h2:=HS0.out.o;omega) _ _ ((HV0.out.mono HZ0.out).trans (HB1.out.mono (by have:=HV0.out.size;have:=HZ0.out;omega)))
       ·have hx0':(H.bx[k].x == 0)=false:=by simpa using hx0
        have HN:Hid (∀ j (hj:j<H.bx.length),j<k+1→H.bx[j].x≠0):=fun j hj hjk=>by
         by_cases e:j=k
         ·subst e;exact hx0
         ·exact HDN.out j hj (by omega)
        generalize H.bx[k].x=x0 at *;go_wp2_with fail;go_roundw
        case rel=>exact⟨k+1,by omega,by go_num,HN.out,by first | rfl | trivial⟩
        case measure=>simp[intOf];omega
      ·have hkn:k=s.n2:=by omega
       subst hkn;have HRL:Hid (subHo H t F=postHo H (ev3 4 t 0)):=by
        have e:freeIx H.bx=H.bx.length:=List.findIdx_eq_length.2 fun b hb=>by
         obtain⟨j,hj,rfl⟩:=List.getElem_of_mem hb
         simpa using HDN.out j hj (by have:=HLN.out;omega)
        show _=_
        rw[HRL0.out,e,if_neg (Nat.lt_irrefl _)]
       go_wp2_with (first | (refine wpList_load_mid (P:=Tryz.prog) rfl 35 _ rfl w.heap.size 0 rfl (hoL H s) _ HB.out.p.load Tryz.underlying35 rfl (sz41L H s) ?_))
       refine (l3say_q wr H s T2 w.heap.size g4 4 t 0 HE4.out.1 HQ.out (by have:=HS.out.o;omega) hn4 hlo).mono ?_
       rintro o w8 ⟨g',n',k',rfl,hV,ho8,hb8⟩;have HR8:Hid (blk w8 (w.heap.size+1+1) Z10 35):=HB.out.r.kept (ho8 _ (by have:=HE4.out.2;omega) HB.out.r.lt)
       have HE8:Hid (∀ L:List Value,spS B T0 T1 T2 (postHo H (ev3 4 t 0)) (qSl s g' n' k') (w8.setCells (w.heap.size+1+1) 0 L)):=fun L=>sp_endG HS.out HS0.out.o.2.2.2 HE4.out.2.2 ⟨by omega,HB.out.r.lt⟩ hV ho8 hb8.size (fun q hq=>setCells_other _ q hq _ _ _) (setCells_size ..)
       have HB8:Hid (Below B w w8):=(HBW.out.mono HZ0.out).trans (hb8.mono (by have:=HS0.out.o;omega))
       clear hV ho8 hb8;go_wp2_with (first
        | (refine wpList_store_mid (P:=Tryz.prog) rfl 35 _ _ rfl (w.heap.size+1+1) 0 (hoL (postHo H (ev3 4 t 0)) (qSl s g' n' k')).toArray rfl rfl (HR8.out.there 0 _ (by rw[List.size_toArray,hoL_len];decide)) (sz41A _ _) (hoL_one _ _) ?_;generalize hW9:World.setCells _ (w.heap.size+1+1) 0 _=w9;have HW9:Hid (_=w9):=hW9;clear hW9))
       have e9:=HW9.out
       have hF:blk w9 (w.heap.size+1+1) (hoL (postHo H (ev3 4 t 0)) (qSl s g' n' k')) 35:=by
        rw[← e9]
        have:=blk.put [] Z10 [] (hoL (postHo H (ev3 4 t 0)) (qSl s g' n' k')) (w:=w8) (b:=w.heap.size+1+1) (T:=35) (by simpa using HR8.out) (by rw[hoL_len];rfl)
        simpa using this
       have hL:=run_loadVar_mid (P:=Tryz.prog) w9 (w.heap.size+1+1) 0 35 _ _ hF.load Tryz.underlying35 rfl (sz41L _ _)
       refine bodyPost_ret (v:=.agg (hoL (postHo H (ev3 4 t 0)) (qSl s g' n' k')).toArray) (results_cell Tryz.results73 _ w9 (w.heap.size+1+1) _ rfl hL) rfl ?_
       rw[HRL.out]
       refine⟨_,rfl,?_,?_⟩
       ·rw[← e9];exact (HE8.out _).isSt
       ·rw[← e9];exact setCells_below (by have:=HZ0.out;omega) 0 _ HB8.out
   ·have HRL:Hid (subHo H t F=postHo H (ev3 5 t 3)):=by
     show _=_
     unfold subHo
     rw[if_neg (fun h=>h ht),if_neg (by rw[HV.out];simp),if_pos hk]
    go_wp2_with (first | (refine wpList_load_mid (P:=Tryz.prog) rfl 35 _ rfl w.heap.size 0 rfl (hoL H s) _ HB.out.p.load Tryz.underlying35 rfl (sz41L H s) ?_))
    refine (l3say_q w2 H s T2 w.heap.size g4 5 t 3 HE4.out.1 HQ.out (by have:=HS.out.o;omega) hn4 hlo).mono ?_
    rintro o w8 ⟨g',n',k',rfl,hV,ho8,hb8⟩;have HR8:Hid (blk w8 (w.heap.size+1+1) Z10 35):=HB.out.r.kept (ho8 _ (by have:=HE4.out.2;omega) HB.out.r.lt)
    have HE8:Hid (∀ L:List Value,spS B T0 T1 T2 (postHo H (ev3 5 t 3)) (qSl s g' n' k') (w8.setCells (w.heap.size+1+1) 0 L)):=fun L=>sp_endG HS.out HS0.out.o.2.2.2 HE4.out.2.2 ⟨by omega,HB.out.r.lt⟩ hV ho8 hb8.size (fun q hq=>setCells_other _ q hq _ _ _) (setCells_size ..)
    have HB8:Hid (Below B w w8):=(HBW.out.mono HZ0.out).trans (hb8.mono (by have:=HS0.out.o;omega))
    clear hV ho8 hb8;go_wp2_with (first
     | (refine wpList_store_mid (P:=Tryz.prog) rfl 35 _ _ rfl (w.heap.size+1+1) 0 (hoL (postHo H (ev3 5 t 3)) (qSl s g' n' k')).toArray rfl rfl (HR8.out.there 0 _ (by rw[List.size_toArray,hoL_len];decide)) (sz41A _ _) (hoL_one _ _) ?_;generalize hW9:World.setCells _ (w.heap.size+1+1) 0 _=w9;have HW9:Hid (_=w9):=hW9;clear hW9))
    have e9:=HW9.out
    have hF:blk w9 (w.heap.size+1+1) (hoL (postHo H (ev3 5 t 3)) (qSl s g' n' k')) 35:=by
     rw[← e9]
     have:=blk.put [] Z10 [] (hoL (postHo H (ev3 5 t 3)) (qSl s g' n' k')) (w:=w8) (b:=w.heap.size+1+1) (T:=35) (by simpa using HR8.out) (by rw[hoL_len];rfl)
     simpa using this
    have hL:=run_loadVar_mid (P:=Tryz.prog) w9 (w.heap.size+1+1) 0 35 _ _ hF.load Tryz.underlying35 rfl (sz41L _ _)
    refine bodyPost_ret (v:=.agg (hoL (postHo H (ev3 5 t 3)) (qSl s g' n' k')).toArray) (results_cell Tryz.results73 _ w9 (w.heap.size+1+1) _ rfl hL) rfl ?_
    rw[HRL.out]
    refine⟨_,rfl,?_,?_⟩
    ·rw[← e9];exact (HE8.out _).isSt
    ·rw[← e9];exact setCells_below (by have:=HZ0.out;omega) 0 _ HB8.out
  ·have hv':validB F.e F.i F.r F.d fm=false:=by simpa using hv
   rw[hv']
   have HRL:Hid (subHo H t F=postHo H (ev3 5 t 2)):=by
    show _=_
    unfold subHo
    rw[if_neg (fun h=>h ht),if_pos (by rw[← HFL.out];exact hv')]
   go_wp2_with (first | (refine wpList_load_mid (P:=Tryz.prog) rfl 35 _ rfl w.heap.size 0 rfl (hoL H s) _ HB.out.p.load Tryz.underlying35 rfl (sz41L H s) ?_))
   refine (l3say_q w1 H s T2 w.heap.size g4 5 t 2 HE4.out.1 HQ.out (by have:=HS.out.o;omega) hn4 hlo).mono ?_
   rintro o w8 ⟨g',n',k',rfl,hV,ho8,hb8⟩;have HR8:Hid (blk w8 (w.heap.size+1+1) Z10 35):=HB.out.r.kept (ho8 _ (by have:=HE4.out.2;omega) HB.out.r.lt)
   have HE8:Hid (∀ L:List Value,spS B T0 T1 T2 (postHo H (ev3 5 t 2)) (qSl s g' n' k') (w8.setCells (w.heap.size+1+1) 0 L)):=fun L=>sp_endG HS.out HS0.out.o.2.2.2 HE4.out.2.2 ⟨by omega,HB.out.r.lt⟩ hV ho8 hb8.size (fun q hq=>setCells_other _ q hq _ _ _) (setCells_size ..)
   have HB8:Hid (Below B w w8):=(HBW.out.mono HZ0.out).trans (hb8.mono (by have:=HS0.out.o;omega))
   clear hV ho8 hb8;go_wp2_with (first
    | (refine wpList_store_mid (P:=Tryz.prog) rfl 35 _ _ rfl (w.heap.size+1+1) 0 (hoL (postHo H (ev3 5 t 2)) (qSl s g' n' k')).toArray rfl rfl (HR8.out.there 0 _ (by rw[List.size_toArray,hoL_len];decide)) (sz41A _ _) (hoL_one _ _) ?_;generalize hW9:World.setCells _ (w.heap.size+1+1) 0 _=w9;have HW9:Hid (_=w9):=hW9;clear hW9))
   have e9:=HW9.out
   have hF:blk w9 (w.heap.size+1+1) (hoL (postHo H (ev3 5 t 2)) (qSl s g' n' k')) 35:=by
    rw[← e9]
    have:=blk.put [] Z10 [] (hoL (postHo H (ev3 5 t 2)) (qSl s g' n' k')) (w:=w8) (b:=w.heap.size+1+1) (T:=35) (by simpa using HR8.out) (by rw[hoL_len];rfl)
    simpa using this
   have hL:=run_loadVar_mid (P:=Tryz.prog) w9 (w.heap.size+1+1) 0 35 _ _ hF.load Tryz.underlying35 rfl (sz41L _ _)
   refine bodyPost_ret (v:=.agg (hoL (postHo H (ev3 5 t 2)) (qSl s g' n' k')).toArray) (results_cell Tryz.results73 _ w9 (w.heap.size+1+1) _ rfl hL) rfl ?_
   rw[HRL.out]
   refine⟨_,rfl,?_,?_⟩
   ·rw[← e9];exact (HE8.out _).isSt
   ·rw[← e9];exact setCells_below (by have:=HZ0.out;omega) 0 _ HB8.out
 ·have HRL:Hid (subHo H t F=postHo H (ev3 5 0 1)):=by
   show _=_
   unfold subHo
   rw[if_pos ht]
  have HBW:Hid (Below w.heap.size w (((w.alloc (.cells (hoL H s).toArray 35)).alloc (.cells [.bool F.e,.int .u32 (F.i:Int),.bool F.r,.int .i64 F.d,.slice fa fm fc].toArray 25)).alloc (.cells [.int .i64 0,.int .i64 0,.int .i64 0,.int .i64 0,.slice none 0 0,.slice none 0 0,.slice none 0 0,.slice none 0 0,.int .i64 0,.int .i64 0].toArray 35))):=HBA.out.trans ((Below.refl _ _).mono HBA.out.size)
  have HB:Hid (sbS w (hoL H s) [.bool F.e,.int .u32 (F.i:Int),.bool F.r,.int .i64 F.d,.slice fa fm fc] (((w.alloc (.cells (hoL H s).toArray 35)).alloc (.cells [.bool F.e,.int .u32 (F.i:Int),.bool F.r,.int .i64 F.d,.slice fa fm fc].toArray 25)).alloc (.cells [.int .i64 0,.int .i64 0,.int .i64 0,.int .i64 0,.slice none 0 0,.slice none 0 0,.slice none 0 0,.slice none 0 0,.int .i64 0,.int .i64 0].toArray 35))):=HA.out.below (Below.refl _ _)
  have HS:Hid (spS B T0 T1 T2 H s (((w.alloc (.cells (hoL H s).toArray 35)).alloc (.cells [.bool F.e,.int .u32 (F.i:Int),.bool F.r,.int .i64 F.d,.slice fa fm fc].toArray 25)).alloc (.cells [.int .i64 0,.int .i64 0,.int .i64 0,.int .i64 0,.slice none 0 0,.slice none 0 0,.slice none 0 0,.slice none 0 0,.int .i64 0,.int .i64 0].toArray 35))):=HS0.out.below HBW.out
  have HQ:Hid (rowQ8 T2 w.heap.size 46 g4 s.n4 s.k4 H.qu (((w.alloc (.cells (hoL H s).toArray 35)).alloc (.cells [.bool F.e,.int .u32 (F.i:Int),.bool F.r,.int .i64 F.d,.slice fa fm fc].toArray 25)).alloc (.cells [.int .i64 0,.int .i64 0,.int .i64 0,.int .i64 0,.slice none 0 0,.slice none 0 0,.slice none 0 0,.slice none 0 0,.int .i64 0,.int .i64 0].toArray 35))):=HQ0.out.keep fun x _ h2=>HBW.out.block x h2
  by_cases h0:t<0
  ·have ht1:decide (t<0)=true:=by simpa using h0
   go_enter Tryz.func73,Tryz.ntmps73
   go_wp2_with (first | (refine wpList_load_mid (P:=Tryz.prog) rfl 35 _ rfl w.heap.size 0 rfl (hoL H s) _ HB.out.p.load Tryz.underlying35 rfl (sz41L H s) ?_))
   refine (l3say_q (((w.alloc (.cells (hoL H s).toArray 35)).alloc (.cells [.bool F.e,.int .u32 (F.i:Int),.bool F.r,.int .i64 F.d,.slice fa fm fc].toArray 25)).alloc (.cells [.int .i64 0,.int .i64 0,.int .i64 0,.int .i64 0,.slice none 0 0,.slice none 0 0,.slice none 0 0,.slice none 0 0,.int .i64 0,.int .i64 0].toArray 35)) H s T2 w.heap.size g4 5 0 1 HE4.out.1 HQ.out (by have:=HS.out.o;omega) hn4 hlo).mono ?_
   rintro o w8 ⟨g',n',k',rfl,hV,ho8,hb8⟩;have HR8:Hid (blk w8 (w.heap.size+1+1) Z10 35):=HB.out.r.kept (ho8 _ (by have:=HE4.out.2;omega) HB.out.r.lt)
   have HE8:Hid (∀ L:List Value,spS B T0 T1 T2 (postHo H (ev3 5 0 1)) (qSl s g' n' k') (w8.setCells (w.heap.size+1+1) 0 L)):=fun L=>sp_endG HS.out HS0.out.o.2.2.2 HE4.out.2.2 ⟨by omega,HB.out.r.lt⟩ hV ho8 hb8.size (fun q hq=>setCells_other _ q hq _ _ _) (setCells_size ..)
   have HB8:Hid (Below B w w8):=(HBW.out.mono HZ0.out).trans (hb8.mono (by have:=HS0.out.o;omega))
   clear hV ho8 hb8;go_wp2_with (first
    | (refine wpList_store_mid (P:=Tryz.prog) rfl 35 _ _ rfl (w.heap.size+1+1) 0 (hoL (postHo H (ev3 5 0 1)) (qSl s g' n' k')).toArray rfl rfl (HR8.out.there 0 _ (by rw[List.size_toArray,hoL_len];decide)) (sz41A _ _) (hoL_one _ _) ?_;generalize hW9:World.setCells _ (w.heap.size+1+1) 0 _=w9;have HW9:Hid (_=w9):=hW9;clear hW9))
   have e9:=HW9.out
   have hF:blk w9 (w.heap.size+1+1) (hoL (postHo H (ev3 5 0 1)) (qSl s g' n' k')) 35:=by
    rw[← e9]
    have:=blk.put [] Z10 [] (hoL (postHo H (ev3 5 0 1)) (qSl s g' n' k')) (w:=w8) (b:=w.heap.size+1+1) (T:=35) (by simpa using HR8.out) (by rw[hoL_len];rfl)
    simpa using this
   have hL:=run_loadVar_mid (P:=Tryz.prog) w9 (w.heap.size+1+1) 0 35 _ _ hF.load Tryz.underlying35 rfl (sz41L _ _)
   refine bodyPost_ret (v:=.agg (hoL (postHo H (ev3 5 0 1)) (qSl s g' n' k')).toArray) (results_cell Tryz.results73 _ w9 (w.heap.size+1+1) _ rfl hL) rfl ?_
   rw[HRL.out]
   refine⟨_,rfl,?_,?_⟩
   ·rw[← e9];exact (HE8.out _).isSt
   ·rw[← e9];exact setCells_below (by have:=HZ0.out;omega) 0 _ HB8.out
  ·have ht1:decide (t<0)=false:=by simp;omega
   have ht2:decide (9999<t)=true:=by simp;omega
   go_enter Tryz.func73,Tryz.ntmps73
   go_wp2_with (first | (refine wpList_load_mid (P:=Tryz.prog) rfl 35 _ rfl w.heap.size 0 rfl (hoL H s) _ HB.out.p.load Tryz.underlying35 rfl (sz41L H s) ?_))
   refine (l3say_q (((w.alloc (.cells (hoL H s).toArray 35)).alloc (.cells [.bool F.e,.int .u32 (F.i:Int),.bool F.r,.int .i64 F.d,.slice fa fm fc].toArray 25)).alloc (.cells [.int .i64 0,.int .i64 0,.int .i64 0,.int .i64 0,.slice none 0 0,.slice none 0 0,.slice none 0 0,.slice none 0 0,.int .i64 0,.int .i64 0].toArray 35)) H s T2 w.heap.size g4 5 0 1 HE4.out.1 HQ.out (by have:=HS.out.o;omega) hn4 hlo).mono ?_
   rintro o w8 ⟨g',n',k',rfl,hV,ho8,hb8⟩;have HR8:Hid (blk w8 (w.heap.size+1+1) Z10 35):=HB.out.r.kept (ho8 _ (by have:=HE4.out.2;omega) HB.out.r.lt)
   have HE8:Hid (∀ L:List Value,spS B T0 T1 T2 (postHo H (ev3 5 0 1)) (qSl s g' n' k') (w8.setCells (w.heap.size+1+1) 0 L)):=fun L=>sp_endG HS.out HS0.out.o.2.2.2 HE4.out.2.2 ⟨by omega,HB.out.r.lt⟩ hV ho8 hb8.size (fun q hq=>setCells_other _ q hq _ _ _) (setCells_size ..)
   have HB8:Hid (Below B w w8):=(HBW.out.mono HZ0.out).trans (hb8.mono (by have:=HS0.out.o;omega))
   clear hV ho8 hb8;go_wp2_with (first
    | (refine wpList_store_mid (P:=Tryz.prog) rfl 35 _ _ rfl (w.heap.size+1+1) 0 (hoL (postHo H (ev3 5 0 1)) (qSl s g' n' k')).toArray rfl rfl (HR8.out.there 0 _ (by rw[List.size_toArray,hoL_len];decide)) (sz41A _ _) (hoL_one _ _) ?_;generalize hW9:World.setCells _ (w.heap.size+1+1) 0 _=w9;have HW9:Hid (_=w9):=hW9;clear hW9))
   have e9:=HW9.out
   have hF:blk w9 (w.heap.size+1+1) (hoL (postHo H (ev3 5 0 1)) (qSl s g' n' k')) 35:=by
    rw[← e9]
    have:=blk.put [] Z10 [] (hoL (postHo H (ev3 5 0 1)) (qSl s g' n' k')) (w:=w8) (b:=w.heap.size+1+1) (T:=35) (by simpa using HR8.out) (by rw[hoL_len];rfl)
    simpa using this
   have hL:=run_loadVar_mid (P:=Tryz.prog) w9 (w.heap.size+1+1) 0 35 _ _ hF.load Tryz.underlying35 rfl (sz41L _ _)
   refine bodyPost_ret (v:=.agg (hoL (postHo H (ev3 5 0 1)) (qSl s g' n' k')).toArray) (results_cell Tryz.results73 _ w9 (w.heap.size+1+1) _ rfl hL) rfl ?_
   rw[HRL.out]
   refine⟨_,rfl,?_,?_⟩
   ·rw[← e9];exact (HE8.out _).isSt
   ·rw[← e9];exact setCells_below (by have:=HZ0.out;omega) 0 _ HB8.out
def drRel (H T:Ho) (q:List R8):Prop:=(okHo H∧T=(qHo H [])∧q=H.qu)∨(¬ okHo H∧T=zHo∧q=[])
theorem drRel.yes {H T:Ho} {q:List R8} (h:drRel H T q) (hok:okHo H):T=(qHo H [])∧q=H.qu:=by
 rcases h with⟨_,e⟩|⟨h,_⟩
 ·exact e
 ·exact absurd hok h
theorem drRel.no {H T:Ho} {q:List R8} (h:drRel H T q) (hok:¬ okHo H):T=zHo∧q=[]:=by
 rcases h with⟨h,_⟩|⟨_,e⟩
 ·exact absurd h hok
 ·exact e
set_option maxHeartbeats 8000000 in
set_option maxRecDepth 20000 in
theorem specDrain_st (w:World) (H:Ho) (s:Sl) (T:Ho) (q:List R8) (hR:drRel H T q) (h:isHo w H s) (hn:H.le 1048576) :
  Calls Tryz.prog 32 #[.agg (hoL H s).toArray] w fun o w'=>∃ s2 a c,o = .returned (.tuple #[.agg (hoL T s2).toArray,.slice a q.length c])∧St w.heap.size w' (fun V=>isHo V T s2)∧isR8s w' a q.length c q∧Below w.heap.size w w':=by
 have H0:Hid (dtS w H s ((w.alloc (.cells (hoL H s).toArray 35)).alloc (.cells [.int .i64 0,.int .i64 0,.int .i64 0,.int .i64 0,.slice none 0 0,.slice none 0 0,.slice none 0 0,.slice none 0 0,.int .i64 0,.int .i64 0].toArray 35))):=dtS.new w H s
 have HR:Hid (drRel H T q):=hR
 clear hR;by_cases hok:okHo H
 ·have HV:Hid (∀ W,Below w.heap.size w W→Calls Tryz.prog 72 #[.agg (hoL H s).toArray] W fun o w'=>o = .returned (.bool true)∧Below W.heap.size W w'):=fun W hW=>okL W H s (h.below hW) hn hok
  have HC:Hid (∀ W,Below w.heap.size w W→Calls Tryz.prog 71 #[.agg (hoL H s).toArray] W fun o w'=>∃ s',o = .returned (.agg (hoL H s').toArray)∧St W.heap.size w' (fun V=>isHo V H s')∧Below W.heap.size W w'):=fun W hW=>(copyS W H s (h.below hW) hn).mono (by rintro o w' ⟨s',T0,T1,T2,rfl,h1,_,_,h2⟩;exact⟨s',rfl,fun V hV=>h1.isSt V (fun x h3 h4=>hV x (by omega) h4),h2⟩)
  have HCE:Hid (∀ W,Below w.heap.size w W→Calls Tryz.prog 81 #[.slice s.a4 s.n4 s.k4] W fun o w'=>∃ g k,o = .returned (.slice (some ⟨g,0,none⟩) s.n4 k)∧St W.heap.size w' (fun V=>isR8s V (some ⟨g,0,none⟩) s.n4 k H.qu)∧Below W.heap.size W w'):=fun W hW=>(l3copyEvents_any W s.a4 s.n4 s.k4 H.qu (h.below hW).qu (by have:=h.qu.len;have:=hn.qu;omega) hn.qd).mono (by rintro o w' ⟨g,k,rfl,⟨_,_,h1⟩,h2⟩;exact⟨g,k,rfl,h1,h2⟩)
  have HNL:Hid (s.n4=H.qu.length):=h.qu.len
  have HOK:Hid (okHo H):=hok
  clear h hn hok;go_enter Tryz.func32,Tryz.ntmps32
  go_wp2_with (first
   | (refine wpList_load_mid (P:=Tryz.prog) rfl 35 _ rfl w.heap.size 0 rfl (hoL H s) _ H0.out.p.load Tryz.underlying35 rfl (sz41L H s) ?_))
  refine (HV.out _ H0.out.b).mono ?_
  rintro o w1 ⟨rfl,hb1⟩;have H1:Hid (dtS w H s w1):=H0.out.below hb1
  clear H0 hb1 HV;go_wp2_with (first
   | (refine wpList_load_mid (P:=Tryz.prog) rfl 35 _ rfl w.heap.size 0 rfl (hoL H s) _ H1.out.p.load Tryz.underlying35 rfl (sz41L H s) ?_))
  refine (HC.out _ H1.out.b).mono ?_
  rintro o w2 ⟨s2,rfl,hi2,hb2⟩;have H2:Hid (dtS w H s w2):=H1.out.below hb2
  have HI2:Hid (St w1.heap.size w2 (fun V=>isHo V H s2)∧w1.heap.size≤w2.heap.size∧w.heap.size+1<w1.heap.size):=⟨hi2,hb2.size,H1.out.r.lt⟩
  clear H1 hb2 hi2 HC;have HN2a:Hid (blk (World.setCells (w2.alloc (.cells [.int .i64 0,.int .i64 0,.int .i64 0,.int .i64 0,.slice none 0 0,.slice none 0 0,.slice none 0 0,.slice none 0 0,.int .i64 0,.int .i64 0].toArray 35)) w2.heap.size 0 (hoL H s2)) w2.heap.size (hoL H s2) 35∧Below w2.heap.size w2 (World.setCells (w2.alloc (.cells [.int .i64 0,.int .i64 0,.int .i64 0,.int .i64 0,.slice none 0 0,.slice none 0 0,.slice none 0 0,.slice none 0 0,.int .i64 0,.int .i64 0].toArray 35)) w2.heap.size 0 (hoL H s2))):=new_hostS _ (hoL_len _ _)
  have HN2b:Hid (blk (w2.alloc (.cells [.int .i64 0,.int .i64 0,.int .i64 0,.int .i64 0,.slice none 0 0,.slice none 0 0,.slice none 0 0,.slice none 0 0,.int .i64 0,.int .i64 0].toArray 35)) w2.heap.size [.int .i64 0,.int .i64 0,.int .i64 0,.int .i64 0,.slice none 0 0,.slice none 0 0,.slice none 0 0,.slice none 0 0,.int .i64 0,.int .i64 0] 35):=blk.new w2 _ 35
  go_wp2_with (first
   | (refine wpList_store_mid (P:=Tryz.prog) rfl 35 _ _ rfl w2.heap.size 0 (hoL H s2).toArray rfl rfl (HN2b.out.there 0 _ (by rw[List.size_toArray,hoL_len];decide)) (sz41A _ _) (hoL_one _ _) ?_;generalize hW3:World.setCells (w2.alloc _) w2.heap.size 0 _=w3;have HX3:Hid (blk w3 w2.heap.size (hoL H s2) 35∧Below w2.heap.size w2 w3):=(by rw[← hW3];exact HN2a.out);have x7:=(HX3.out.1.alloc (.cells #[] 46)).cell 7 _ (by unfold hoL;rfl);have z7:=(HX3.out.1.alloc (.cells #[] 46)).free 7;clear hW3))
  have HG5:Hid (blk ((w3.alloc (.cells #[] 46)).setCell ⟨w2.heap.size,7,none⟩ (.slice (some ⟨w3.heap.size,0,none⟩) 0 0)) w2.heap.size (hoL (qHo H []) (qSl s2 w3.heap.size 0 0)) 35):=(HX3.out.1.alloc (.cells #[] 46)).set 7 _
  have HB5:Hid (Below w2.heap.size w2 ((w3.alloc (.cells #[] 46)).setCell ⟨w2.heap.size,7,none⟩ (.slice (some ⟨w3.heap.size,0,none⟩) 0 0))):=(HX3.out.2.alloc HX3.out.2.size (.cells #[] 46)).setCell (by exact Nat.le_refl _) _
  clear HX3 x7 z7 HN2a HN2b;generalize (w3.alloc (.cells #[] 46)).setCell ⟨w2.heap.size,7,none⟩ (.slice (some ⟨w3.heap.size,0,none⟩) 0 0)=w5 at *;generalize w3.heap.size=bq at *;refine wp_region_held (S:=fun X=>blk X w.heap.size (hoL H s) 35∧blk X w2.heap.size (hoL (qHo H []) (qSl s2 bq 0 0)) 35) (by kernel_rfl) ?_
  have hbd:Below w5.heap.size w5 (World.drew w5):=(Below.refl _ _).drew
  have HG6:Hid (blk (World.drew w5) w2.heap.size (hoL (qHo H []) (qSl s2 bq 0 0)) 35):=HG5.out.below hbd
  have HB6:Hid (Below w2.heap.size w2 (World.drew w5)):=HB5.out.drew
  clear hbd HG5 HB5;change wpAnyH Tryz.prog _ _ _ _ _ _ _ (World.drew w5)
  generalize World.drew w5=w6 at *;have H6:Hid (dtS w H s w6):=H2.out.below HB6.out
  have HI6:Hid (St w1.heap.size w6 (fun V=>isHo V H s2)∧w1.heap.size≤w6.heap.size∧w.heap.size+1<w1.heap.size):=⟨fun V hV=>HI2.out.1 V (fun x h1 h2=>(hV x h1 (Nat.lt_of_lt_of_le h2 HB6.out.size)).trans (HB6.out.block x h2)),Nat.le_trans HI2.out.2.1 HB6.out.size,HI2.out.2.2⟩
  have HLT:Hid (w.heap.size+1<w2.heap.size):=H2.out.r.lt
  have hS:blk w6 w.heap.size (hoL H s) 35∧blk w6 w2.heap.size (hoL (qHo H []) (qSl s2 bq 0 0)) 35:=⟨H6.out.p,HG6.out⟩
  clear H2 HI2 HB6 HG6;generalize w2.heap.size=bg at *;refine wT (i:=0) (v:=.agg (hoL (qHo H []) (qSl s2 bq 0 0)).toArray) rfl (by kernel_rfl) (by kernel_rfl) (by kernel_rfl) (fun _ _ _ h=>h) (yieldsIf_load_mid (by rfl) 35 _ rfl bg 0 rfl (hoL (qHo H []) (qSl s2 bq 0 0)) _ (fun X h=>h.2.load) Tryz.underlying35 rfl (sz41L _ _)) hS ?_
  simp only[Act.put,aA,aB,aC,aD,aE]
  refine wT (i:=1) (v:=.pointer (some ⟨w.heap.size,7,none⟩)) rfl (by kernel_rfl) (by kernel_rfl) (by kernel_rfl) (fun _ _ _ h=>h) (Or.inl ⟨by rfl,?_⟩) hS ?_
  ·intro W hSw;clear hS;go_simp
  simp only[Act.put,aA,aB,aC,aD,aE,aF];refine wT (i:=2) (v:=.slice s.a4 s.n4 s.k4) rfl (by kernel_rfl) (by kernel_rfl) (by kernel_rfl) (fun _ _ _ h=>h) (Or.inl ⟨by rfl,?_⟩) hS ?_
  ·intro W hSw;clear hS;have x7:=hSw.1.cell 7 _ (by unfold hoL;rfl)
   go_simp
  simp only[Act.put,aA,aB,aC,aD,aE,aF];refine wpAnyH_all (rs:=[3]) (by kernel_rfl) (by simp) ?_
  refine AllReadyH.cons rfl (fun K2 hK2=>?_) AllReadyH.nil
  go_simp;refine (HCE.out w6 H6.out.b).mono ?_
  rintro o w7 ⟨gE,kE,rfl,hE,hb7⟩;have hS5:blk w7 w.heap.size (hoL H s) 35∧blk w7 bg (hoL (qHo H []) (qSl s2 bq 0 0)) 35:=⟨hS.1.below hb7,hS.2.below hb7⟩
  have H7:Hid (dtS w H s w7):=H6.out.below hb7
  have HI7:Hid (St w1.heap.size w7 (fun V=>isHo V H s2)∧w.heap.size+1<w1.heap.size∧w1.heap.size≤w6.heap.size):=⟨fun V hV=>HI6.out.1 V (fun x h1 h2=>(hV x h1 (Nat.lt_of_lt_of_le h2 hb7.size)).trans (hb7.block x h2)),HI6.out.2.2,HI6.out.2.1⟩
  have HE7:Hid (St w6.heap.size w7 (fun V=>isR8s V (some ⟨gE,0,none⟩) s.n4 kE H.qu)):=hE
  clear hE hb7 H6 HI6 HCE;go_wp2_with fail;refine hK2.out _ _ hS5 (fun hS2=>?_)
  clear hK2 K2 hS hS5;have hS:=hS2
  clear hS2;refine wpAnyH_all (rs:=[4]) (by kernel_rfl) (by simp) ?_
  refine AllReadyH.cons rfl (fun K2 hK2=>?_) AllReadyH.nil
  rw[if_pos (by rfl)]
  refine wp_store_mid 35 _ _ rfl (w.heap.size+1) 0 (hoL (qHo H []) (qSl s2 bq 0 0)).toArray rfl rfl (H7.out.r.there 0 _ (by rw[List.size_toArray,hoL_len];decide)) (sz41A _ _) (hoL_one _ _) ?_
  have hS5:blk (w7.setCells (w.heap.size+1) 0 (hoL (qHo H []) (qSl s2 bq 0 0))) w.heap.size (hoL H s) 35∧blk (w7.setCells (w.heap.size+1) 0 (hoL (qHo H []) (qSl s2 bq 0 0))) bg (hoL (qHo H []) (qSl s2 bq 0 0)) 35:=⟨hS.1.other (by omega) _ _,hS.2.other (by have:=HLT.out;omega) _ _⟩
  refine hK2.out _ _ hS5 (fun hS2=>?_)
  clear hK2 K2 hS hS5;have hS:=hS2
  clear hS2;refine wpAnyH_all (rs:=[5]) (by kernel_rfl) (by simp) ?_
  refine AllReadyH.cons rfl (fun K2 hK2=>?_) AllReadyH.nil
  go_simp;refine hK2.out _ _ hS (fun hS2=>?_)
  clear hK2 K2 hS hS2;refine wpAnyH_done (by kernel_rfl) ?_ _
  generalize hW8:World.setCells w7 (w.heap.size+1) 0 (hoL (qHo H []) (qSl s2 bq 0 0))=w8
  have HW8:Hid (World.setCells w7 (w.heap.size+1) 0 (hoL (qHo H []) (qSl s2 bq 0 0))=w8):=hW8
  clear hW8;go_wp2_with fail;have e8:=HW8.out
  have hF:blk w8 (w.heap.size+1) (hoL (qHo H []) (qSl s2 bq 0 0)) 35:=by
   rw[← e8]
   have:=blk.put [] Z10 [] (hoL (qHo H []) (qSl s2 bq 0 0)) (w:=w7) (b:=w.heap.size+1) (T:=35) (by simpa using H7.out.r) (by rw[hoL_len];rfl)
   rw[List.nil_append,List.append_nil] at this
   exact this
  have hL:=run_loadVar_mid (P:=Tryz.prog) w8 (w.heap.size+1) 0 35 _ _ hF.load Tryz.underlying35 rfl (sz41L _ _)
  refine bodyPost_ret (results_cell_tmp Tryz.results32 _ w8 (w.heap.size+1) _ rfl hL) rfl ?_
  obtain⟨eT,eq⟩:=HR.out.yes HOK.out
  subst eT eq;have oth:∀ x,x≠w.heap.size+1→w8.heap[x]?=w7.heap[x]?:=fun x hx=>by rw[← e8];exact setCells_other _ x hx _ _ _
  have hz1:=HI7.out.2.1
  have hz6:=HI7.out.2.2
  have hE:=HE7.out w8 (fun x h1 _=>oth x (by omega))
  rw[HNL.out] at hE
  have hsz:w8.heap.size=w7.heap.size:=by rw[← e8];exact setCells_size ..
  refine⟨(qSl s2 bq 0 0),some ⟨gE,0,none⟩,kE,?_,fun V hV=>?_,hE,?_⟩
  ·rw[← HNL.out]
   rfl
  ·have hI:=HI7.out.1 V (fun x h1 h2=>(hV x (by omega) (by omega)).trans (oth x (by omega)))
   exact⟨hI.fs,hI.bx,hI.ff,⟨rfl,Nat.le_refl _,fun e=>absurd rfl e⟩⟩
  ·rw[← e8]
   exact setCells_below (by omega) 0 _ H7.out.b
 ·have HV:Hid (∀ W,Below w.heap.size w W→Calls Tryz.prog 72 #[.agg (hoL H s).toArray] W fun o w'=>o = .returned (.bool false)∧Below W.heap.size W w'):=fun W hW=>badL W H s (h.below hW) hn hok
  have HOK:Hid (¬ okHo H):=hok
  clear h hn hok;go_enter Tryz.func32,Tryz.ntmps32
  go_wp2_with (first
   | (refine wpList_load_mid (P:=Tryz.prog) rfl 35 _ rfl w.heap.size 0 rfl (hoL H s) _ H0.out.p.load Tryz.underlying35 rfl (sz41L H s) ?_))
  refine (HV.out _ H0.out.b).mono ?_
  rintro o w1 ⟨rfl,hb1⟩;have H1:Hid (dtS w H s w1):=H0.out.below hb1
  clear H0 hb1;have H2:Hid (dtS w H s (w1.alloc (.cells #[] 46))):=H1.out.below ((Below.refl _ _).alloc (Nat.le_refl _) _)
  go_wp2_with (first
   | (refine wpList_store_mid (P:=Tryz.prog) rfl 35 _ _ rfl (w.heap.size+1) 0 [.int .i64 0,.int .i64 0,.int .i64 0,.int .i64 0,.slice none 0 0,.slice none 0 0,.slice none 0 0,.slice none 0 0,.int .i64 0,.int .i64 0].toArray rfl rfl (H2.out.r.there 0 10 (by simp[Z10])) sz41 (all_oneCell_toArray (by simp[Value.oneCell'])) ?_;generalize hW8:World.setCells _ (w.heap.size+1) 0 _=w8;have HW8:Hid (_=w8):=hW8;clear hW8))
  have e8:=HW8.out
  have hF:blk w8 (w.heap.size+1) [.int .i64 0,.int .i64 0,.int .i64 0,.int .i64 0,.slice none 0 0,.slice none 0 0,.slice none 0 0,.slice none 0 0,.int .i64 0,.int .i64 0] 35:=by
   rw[← e8]
   have:=blk.put [] Z10 [] [.int .i64 0,.int .i64 0,.int .i64 0,.int .i64 0,.slice none 0 0,.slice none 0 0,.slice none 0 0,.slice none 0 0,.int .i64 0,.int .i64 0] (w:=w1.alloc (.cells #[] 46)) (b:=w.heap.size+1) (T:=35) (by simpa using H2.out.r) rfl
   rw[List.nil_append,List.append_nil] at this
   exact this
  have hL:=run_loadVar_mid (P:=Tryz.prog) w8 (w.heap.size+1) 0 35 _ _ hF.load Tryz.underlying35 rfl sz41
  refine bodyPost_ret (results_cell_tmp Tryz.results32 _ w8 (w.heap.size+1) _ rfl hL) rfl ?_
  obtain⟨eT,eq⟩:=HR.out.no HOK.out
  subst eT eq;refine⟨zSl,some ⟨w1.heap.size,0,none⟩,0,by rw[zHo_L];rfl,fun V _=>zHo_is V,⟨rfl,Nat.le_refl _,fun e=>absurd rfl e⟩,?_⟩
  rw[← e8]
  exact setCells_below (by omega) 0 _ H2.out.b
end Go.Proofs.YtaamahohdnbpiaaGreat
