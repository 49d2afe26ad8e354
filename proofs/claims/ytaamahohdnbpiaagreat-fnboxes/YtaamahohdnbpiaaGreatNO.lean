import Derived.Test.YtaamahohdnbpiaaGreatG28
namespace Go.Proofs.YtaamahohdnbpiaaGreat
open Go.RowKit
set_option linter.unusedVariables false
def tagBb (t:Int) (b:R8):Bool:=!(b.x == 0) && b.y == t
def tagIx (bx:List R8) (t:Int):Nat:=bx.findIdx (tagBb t)
theorem fstB.tag {bx:List R8} {t r:Int} (h:fstB (tagB t) bx r):(r = -1∧¬ tagIx bx t<bx.length)∨(r=(tagIx bx t:Int)∧tagIx bx t<bx.length):=by
 have e:∀ b,tagBb t b=true↔tagB t b:=fun b=>by simp[tagBb,tagB]
 rcases h with⟨k,hk,h1,h2,rfl⟩|⟨h1,rfl⟩
 ·right
  have e:tagIx bx t=k:=by
   unfold tagIx
   rw[List.findIdx_eq hk]
   refine⟨(e _).2 h1,fun j hj=>?_⟩
   have:=h2 j (by omega) hj
   rw[← e] at this
   simpa using this
  rw[e]
  exact⟨rfl,hk⟩
 ·left
  refine⟨rfl,?_⟩
  have:tagIx bx t=bx.length:=List.findIdx_eq_length.2 fun b hb=>by
   obtain⟨j,hj,rfl⟩:=List.getElem_of_mem hb
   have:=h1 j hj
   rw[← e] at this
   simpa using this
  omega
theorem tagIx_on {bx:List R8} {t:Int} (h:tagIx bx t<bx.length):bx[tagIx bx t].x≠0∧bx[tagIx bx t].y=t:=by
 have e:tagBb t (bx[tagIx bx t])=true:=List.findIdx_getElem (xs:=bx) (p:=tagBb t) (w:=h)
 generalize bx[tagIx bx t]=b at *;simpa[tagBb] using e
def abHo (H:Ho) (t:Int):Ho:=
 if h:tagIx H.bx t<H.bx.length then
  (if H.bx[tagIx H.bx t].x=1 then postHo (freeHo H (tagIx H.bx t)) (ev3 6 t 0) else stHo H (tagIx H.bx t) 3)
 else postHo H (ev3 7 (if 0≤t∧t≤9999 then t else 0) 0)
set_option maxHeartbeats 8000000 in
set_option maxRecDepth 20000 in
theorem l3doAbort_any (B T0 T1 T2:Nat) (w:World) (H:Ho) (s:Sl) (t:Int) (h:spS B T0 T1 T2 H s w) (hn2:s.n2≤1000) (hn4:s.n4≤1000) (hlo:0≤H.lo∧H.lo≤100000) :
  Calls Tryz.prog 76 #[.agg (hoL H s).toArray,.int .i64 t] w fun o w'=>∃ s',o = .returned (.agg (hoL (abHo H t) s').toArray)∧spS B T0 T1 T2 (abHo H t) s' w'∧Below B w w':=by
 have H0:Hid (reS w (hoL H s) ((w.alloc (.cells (hoL H s).toArray 35)).alloc (.cells [.int .i64 0,.int .i64 0,.int .i64 0,.int .i64 0,.slice none 0 0,.slice none 0 0,.slice none 0 0,.slice none 0 0,.int .i64 0,.int .i64 0].toArray 35))):=reS.new w _
 have HB0:Hid (Below w.heap.size w ((w.alloc (.cells (hoL H s).toArray 35)).alloc (.cells [.int .i64 0,.int .i64 0,.int .i64 0,.int .i64 0,.slice none 0 0,.slice none 0 0,.slice none 0 0,.slice none 0 0,.int .i64 0,.int .i64 0].toArray 35))):=((Below.refl _ _).alloc (Nat.le_refl _) _).alloc (by simp) _
 have HBS:Hid (∀ W,Below w.heap.size w W→Calls Tryz.prog 140 #[.agg (hoL H s).toArray,.int .i64 t] W fun o w'=>∃ r:Int,o = .returned (.int .i64 r)∧fstB (tagB t) H.bx r∧Below W.heap.size W w'):=fun W hW=>l3find_any W H s t (h.below hW).is.bx hn2
 have HS0:Hid (spS B T0 T1 T2 H s w):=h
 clear h;go_enter Tryz.func76,Tryz.ntmps76
 go_wp2_with (first
  | (refine wpList_load_mid (P:=Tryz.prog) rfl 35 _ rfl w.heap.size 0 rfl (hoL H s) _ H0.out.p.load Tryz.underlying35 rfl (sz41L H s) ?_))
 refine (HBS.out _ HB0.out).mono ?_
 rintro o w5 ⟨r,rfl,hr,hb5⟩;have H5:Hid (reS w (hoL H s) w5):=H0.out.below hb5
 have HB5:Hid (Below w.heap.size w w5):=HB0.out.trans (hb5.mono HB0.out.size)
 have HS5:Hid (spS B T0 T1 T2 H s w5):=HS0.out.below HB5.out
 have hR:=hr.tag
 clear hr hb5 H0 HB0;have HZ0:Hid (B≤w.heap.size):=by have:=HS0.out.o;show _≤_;omega
 have HPL:Hid (w.heap.size<w5.heap.size∧w.heap.size+1<w5.heap.size):=⟨H5.out.p.lt,H5.out.r.lt⟩
 rcases hR with⟨rfl,hno⟩|⟨rfl,hk⟩
 ·obtain⟨g4,e4,hq4⟩:=HS0.out.q
  have HE4:Hid (s.a4=some ⟨g4,0,none⟩∧g4<w.heap.size∧T2≤g4):=⟨e4,hq4.ghi,hq4.glt⟩
  have HQ5:Hid (rowQ8 T2 w.heap.size 46 g4 s.n4 s.k4 H.qu w5):=hq4.keep fun x _ h2=>HB5.out.block x h2
  clear e4 hq4;have HRL:Hid (abHo H t=postHo H (ev3 7 (if 0≤t∧t≤9999 then t else 0) 0)):=by
   show abHo H t=_
   unfold abHo
   rw[dif_neg hno]
  generalize hu:(if 0≤t∧t≤9999 then t else 0)=u at *;have HU:Hid ((if 0≤t∧t≤9999 then t else 0)=u):=hu
  clear hu;have hc:(t<0∧u=0)∨(0≤t∧9999<t∧u=0)∨(0≤t∧t≤9999∧u=t):=by
   have:=HU.out
   split at this
   ·omega
   ·omega
  rcases hc with⟨h1,rfl⟩|⟨h1,h2,rfl⟩|⟨h1,h2,rfl⟩
  ·have hd:(decide (t<0))=true:=by simpa using h1
   go_wp2_with (first
    | (refine wpList_load_mid (P:=Tryz.prog) rfl 35 _ rfl w.heap.size 0 rfl (hoL H s) _ H5.out.p.load Tryz.underlying35 rfl (sz41L H s) ?_))
   refine (l3say_q w5 H s T2 w.heap.size g4 7 0 0 HE4.out.1 HQ5.out (by have:=HS5.out.o;omega) hn4 hlo).mono ?_
   rintro o w8 ⟨g',n',k',rfl,hV,ho8,hb8⟩;have HR8:Hid (blk w8 (w.heap.size+1) Z10 35):=H5.out.r.kept (ho8 _ (by have:=HE4.out.2;omega) HPL.out.2)
   have HE8:Hid (∀ L:List Value,spS B T0 T1 T2 (postHo H (ev3 7 0 0)) (qSl s g' n' k') (w8.setCells (w.heap.size+1) 0 L)):=fun L=>sp_end HS5.out HS0.out.o.2.2.2 HE4.out.2.2 HPL.out.2 hV ho8 hb8.size L
   have HB8:Hid (Below B w w8):=(HB5.out.mono HZ0.out).trans (hb8.mono (by have:=HS0.out.o;omega))
   clear hV ho8 hb8;go_wp2_with (first
    | (refine wpList_store_mid (P:=Tryz.prog) rfl 35 _ _ rfl (w.heap.size+1) 0 (hoL (postHo H (ev3 7 0 0)) (qSl s g' n' k')).toArray rfl rfl (HR8.out.there 0 _ (by rw[List.size_toArray,hoL_len];decide)) (sz41A _ _) (hoL_one _ _) ?_;generalize hW9:World.setCells _ (w.heap.size+1) 0 _=w9;have HW9:Hid (_=w9):=hW9;clear hW9))
   have e9:=HW9.out
   have hF:blk w9 (w.heap.size+1) (hoL (postHo H (ev3 7 0 0)) (qSl s g' n' k')) 35:=by
    rw[← e9]
    have:=blk.put [] Z10 [] (hoL (postHo H (ev3 7 0 0)) (qSl s g' n' k')) (w:=w8) (b:=w.heap.size+1) (T:=35) (by simpa using HR8.out) (by rw[hoL_len];rfl)
    simpa using this
   have hL:=run_loadVar_mid (P:=Tryz.prog) w9 (w.heap.size+1) 0 35 _ _ hF.load Tryz.underlying35 rfl (sz41L _ _)
   refine bodyPost_ret (v:=.agg (hoL (postHo H (ev3 7 0 0)) (qSl s g' n' k')).toArray) (results_cell Tryz.results76 _ w9 (w.heap.size+1) _ rfl hL) rfl ?_
   rw[HRL.out]
   refine⟨_,rfl,?_,?_⟩
   ·rw[← e9];exact HE8.out _
   ·rw[← e9];exact setCells_below (by have:=HZ0.out;omega) 0 _ HB8.out
  ·have hd:(decide (t<0))=false:=by simpa using h1
   have hd2:(decide (9999<t))=true:=by simpa using h2
   go_wp2_with (first
    | (refine wpList_load_mid (P:=Tryz.prog) rfl 35 _ rfl w.heap.size 0 rfl (hoL H s) _ H5.out.p.load Tryz.underlying35 rfl (sz41L H s) ?_))
   refine (l3say_q w5 H s T2 w.heap.size g4 7 0 0 HE4.out.1 HQ5.out (by have:=HS5.out.o;omega) hn4 hlo).mono ?_
   rintro o w8 ⟨g',n',k',rfl,hV,ho8,hb8⟩;have HR8:Hid (blk w8 (w.heap.size+1) Z10 35):=H5.out.r.kept (ho8 _ (by have:=HE4.out.2;omega) HPL.out.2)
   have HE8:Hid (∀ L:List Value,spS B T0 T1 T2 (postHo H (ev3 7 0 0)) (qSl s g' n' k') (w8.setCells (w.heap.size+1) 0 L)):=fun L=>sp_end HS5.out HS0.out.o.2.2.2 HE4.out.2.2 HPL.out.2 hV ho8 hb8.size L
   have HB8:Hid (Below B w w8):=(HB5.out.mono HZ0.out).trans (hb8.mono (by have:=HS0.out.o;omega))
   clear hV ho8 hb8;go_wp2_with (first
    | (refine wpList_store_mid (P:=Tryz.prog) rfl 35 _ _ rfl (w.heap.size+1) 0 (hoL (postHo H (ev3 7 0 0)) (qSl s g' n' k')).toArray rfl rfl (HR8.out.there 0 _ (by rw[List.size_toArray,hoL_len];decide)) (sz41A _ _) (hoL_one _ _) ?_;generalize hW9:World.setCells _ (w.heap.size+1) 0 _=w9;have HW9:Hid (_=w9):=hW9;clear hW9))
   have e9:=HW9.out
   have hF:blk w9 (w.heap.size+1) (hoL (postHo H (ev3 7 0 0)) (qSl s g' n' k')) 35:=by
    rw[← e9]
    have:=blk.put [] Z10 [] (hoL (postHo H (ev3 7 0 0)) (qSl s g' n' k')) (w:=w8) (b:=w.heap.size+1) (T:=35) (by simpa using HR8.out) (by rw[hoL_len];rfl)
    simpa using this
   have hL:=run_loadVar_mid (P:=Tryz.prog) w9 (w.heap.size+1) 0 35 _ _ hF.load Tryz.underlying35 rfl (sz41L _ _)
   refine bodyPost_ret (v:=.agg (hoL (postHo H (ev3 7 0 0)) (qSl s g' n' k')).toArray) (results_cell Tryz.results76 _ w9 (w.heap.size+1) _ rfl hL) rfl ?_
   rw[HRL.out]
   refine⟨_,rfl,?_,?_⟩
   ·rw[← e9];exact HE8.out _
   ·rw[← e9];exact setCells_below (by have:=HZ0.out;omega) 0 _ HB8.out
  ·have hd:(decide (u<0))=false:=by simpa using h1
   have hd2:(decide (9999<u))=false:=by simpa using h2
   go_wp2_with (first
    | (refine wpList_load_mid (P:=Tryz.prog) rfl 35 _ rfl w.heap.size 0 rfl (hoL H s) _ H5.out.p.load Tryz.underlying35 rfl (sz41L H s) ?_))
   refine (l3say_q w5 H s T2 w.heap.size g4 7 u 0 HE4.out.1 HQ5.out (by have:=HS5.out.o;omega) hn4 hlo).mono ?_
   rintro o w8 ⟨g',n',k',rfl,hV,ho8,hb8⟩;have HR8:Hid (blk w8 (w.heap.size+1) Z10 35):=H5.out.r.kept (ho8 _ (by have:=HE4.out.2;omega) HPL.out.2)
   have HE8:Hid (∀ L:List Value,spS B T0 T1 T2 (postHo H (ev3 7 u 0)) (qSl s g' n' k') (w8.setCells (w.heap.size+1) 0 L)):=fun L=>sp_end HS5.out HS0.out.o.2.2.2 HE4.out.2.2 HPL.out.2 hV ho8 hb8.size L
   have HB8:Hid (Below B w w8):=(HB5.out.mono HZ0.out).trans (hb8.mono (by have:=HS0.out.o;omega))
   clear hV ho8 hb8;go_wp2_with (first
    | (refine wpList_store_mid (P:=Tryz.prog) rfl 35 _ _ rfl (w.heap.size+1) 0 (hoL (postHo H (ev3 7 u 0)) (qSl s g' n' k')).toArray rfl rfl (HR8.out.there 0 _ (by rw[List.size_toArray,hoL_len];decide)) (sz41A _ _) (hoL_one _ _) ?_;generalize hW9:World.setCells _ (w.heap.size+1) 0 _=w9;have HW9:Hid (_=w9):=hW9;clear hW9))
   have e9:=HW9.out
   have hF:blk w9 (w.heap.size+1) (hoL (postHo H (ev3 7 u 0)) (qSl s g' n' k')) 35:=by
    rw[← e9]
    have:=blk.put [] Z10 [] (hoL (postHo H (ev3 7 u 0)) (qSl s g' n' k')) (w:=w8) (b:=w.heap.size+1) (T:=35) (by simpa using HR8.out) (by rw[hoL_len];rfl)
    simpa using this
   have hL:=run_loadVar_mid (P:=Tryz.prog) w9 (w.heap.size+1) 0 35 _ _ hF.load Tryz.underlying35 rfl (sz41L _ _)
   refine bodyPost_ret (v:=.agg (hoL (postHo H (ev3 7 u 0)) (qSl s g' n' k')).toArray) (results_cell Tryz.results76 _ w9 (w.heap.size+1) _ rfl hL) rfl ?_
   rw[HRL.out]
   refine⟨_,rfl,?_,?_⟩
   ·rw[← e9];exact HE8.out _
   ·rw[← e9];exact setCells_below (by have:=HZ0.out;omega) 0 _ HB8.out
 ·obtain⟨gb,hs0,e2,hx⟩:=HS5.out.x
  obtain⟨g4,e4,hq4⟩:=HS0.out.q
  have HRL:Hid ((H.bx[tagIx H.bx t].x=1→abHo H t=postHo (freeHo H (tagIx H.bx t)) (ev3 6 t 0))∧(H.bx[tagIx H.bx t].x≠1→abHo H t=stHo H (tagIx H.bx t) 3)):=by
   refine⟨fun e=>?_,fun e=>?_⟩
   ·unfold abHo
    rw[dif_pos hk,if_pos e]
   ·unfold abHo
    rw[dif_pos hk,if_neg e]
  generalize tagIx H.bx t=k at *;have x5:w5.cell? ⟨w.heap.size,5,none⟩=some (.slice (some ⟨gb,0,none⟩) s.n2 s.k2):=by
   rw[← e2]
   exact H5.out.p.cell 5 _ (by unfold hoL;rfl)
  have hcp:=hx.cap
  have hkn:k<s.n2:=by have:=hx.len;omega
  have HX:Hid (bxR T0 T1 gb s.n2 s.k2 H.bx hs0 w5):=hx
  have HE:Hid (s.a2=some ⟨gb,0,none⟩∧s.a4=some ⟨g4,0,none⟩):=⟨e2,e4⟩
  have HGL:Hid (gb<w.heap.size):=by
   have:=hx.hi
   have:=HS0.out.o
   show _<_
   omega
  have HQ0:Hid (rowQ8 T2 w.heap.size 46 g4 s.n4 s.k4 H.qu w):=hq4
  have y0:w5.cell? ⟨gb,k*8,none⟩=some (.int .i64 H.bx[k].x):=hx.rng k hk 0 _ rfl
  have f0:w5.frozen? ⟨gb,k*8,none⟩=false:=(hx.row (k*8) (by omega)).2
  clear hx hq4 e2 e4;have HKK:Hid (k<H.bx.length):=hk
  have HX1:Hid (H.bx[k].x=H.bx[k].x):=rfl
  clear HX1;generalize H.bx[k].x=x at *;by_cases hx1:x=1
  ·have HX1:Hid (x=1):=hx1
   subst hx1;go_wp2_with (first
   | (refine wpList_store_mid (P:=Tryz.prog) rfl 97 _ _ rfl gb (k*8) [.int .i64 0,.int .i64 0,.int .i64 0,.bool false,.int .u32 0,.bool false,.int .i64 0,.slice none 0 0].toArray rfl rfl (HX.out.there k HKK.out) sz95 (one8 _ _ _ _ _ _ _ _ _ _) ?_;generalize hW7:World.setCells w5 gb (k*8) _=w7;have HW7:Hid (_=w7):=hW7;clear hW7;have oth:∀ x,x≠gb→w7.heap[x]?=w5.heap[x]?:=(fun x hx=>by rw[← HW7.out];exact setCells_other _ x hx _ _ _);have HL7:Hid (reS w (hoL H s) w7):=H5.out.kept (oth _ (by have:=HGL.out;omega)) (oth _ (by have:=HGL.out;omega));have HS7:Hid (spS B T0 T1 T2 (freeHo H k) s w7∧isBytes w7 none 0 0 []∧Below B w w7∧rowQ8 T2 w.heap.size 46 g4 s.n4 s.k4 H.qu w7∧w.heap.size+1<w7.heap.size∧g4<w.heap.size):=sp_free2 HS0.out HS5.out HB5.out (Below.refl _ _) HE.out HX.out HKK.out HW7.out HQ0.out (none8 _) (Or.inl ⟨rfl,rfl⟩) HPL.out;clear oth)
   | (refine wpList_load_mid (P:=Tryz.prog) rfl 35 _ rfl w.heap.size 0 rfl (hoL H s) _ HL7.out.p.load Tryz.underlying35 rfl (sz41L H s) ?_))
   refine (l3say_q w7 (freeHo H k) s T2 w.heap.size g4 6 t 0 HE.out.2 HS7.out.2.2.2.1 HS7.out.1.o.2.2.2 hn4 hlo).mono ?_
   rintro o w8 ⟨g',n',k',rfl,hV,ho8,hb8⟩;have HR8:Hid (blk w8 (w.heap.size+1) Z10 35):=HL7.out.r.kept (ho8 _ (by have:=HS7.out.2.2.2.2.2;omega) HS7.out.2.2.2.2.1)
   have HE8:Hid (∀ L:List Value,spS B T0 T1 T2 (postHo (freeHo H k) (ev3 6 t 0)) (qSl s g' n' k') (w8.setCells (w.heap.size+1) 0 L)):=fun L=>sp_end HS7.out.1 HS0.out.o.2.2.2 HS7.out.2.2.2.1.glt HS7.out.2.2.2.2.1 hV ho8 hb8.size L
   have HB8:Hid (Below B w w8):=HS7.out.2.2.1.trans (hb8.mono (by have:=HS0.out.o;omega))
   clear hV ho8 hb8;go_wp2_with (first
    | (refine wpList_store_mid (P:=Tryz.prog) rfl 35 _ _ rfl (w.heap.size+1) 0 (hoL (postHo (freeHo H k) (ev3 6 t 0)) (qSl s g' n' k')).toArray rfl rfl (HR8.out.there 0 _ (by rw[List.size_toArray,hoL_len];decide)) (sz41A _ _) (hoL_one _ _) ?_;generalize hW9:World.setCells _ (w.heap.size+1) 0 _=w9;have HW9:Hid (_=w9):=hW9;clear hW9))
   have e9:=HW9.out
   have hF:blk w9 (w.heap.size+1) (hoL (postHo (freeHo H k) (ev3 6 t 0)) (qSl s g' n' k')) 35:=by
    rw[← e9]
    have:=blk.put [] Z10 [] (hoL (postHo (freeHo H k) (ev3 6 t 0)) (qSl s g' n' k')) (w:=w8) (b:=w.heap.size+1) (T:=35) (by simpa using HR8.out) (by rw[hoL_len];rfl)
    simpa using this
   have hL:=run_loadVar_mid (P:=Tryz.prog) w9 (w.heap.size+1) 0 35 _ _ hF.load Tryz.underlying35 rfl (sz41L _ _)
   refine bodyPost_ret (v:=.agg (hoL (postHo (freeHo H k) (ev3 6 t 0)) (qSl s g' n' k')).toArray) (results_cell Tryz.results76 _ w9 (w.heap.size+1) _ rfl hL) rfl ?_
   have hrl:abHo H t=postHo (freeHo H k) (ev3 6 t 0):=HRL.out.1 HX1.out
   rw[hrl]
   refine⟨_,rfl,?_,?_⟩
   ·rw[← e9];exact HE8.out _
   ·rw[← e9];exact setCells_below (by have:=HZ0.out;omega) 0 _ HB8.out
  ·have HX1:Hid (x≠1):=hx1
   have hx1':(x == 1)=false:=by simpa using hx1
   have H7:Hid (reS w (hoL H s) (w5.setCell ⟨gb,k*8,none⟩ (.int .i64 3))):=⟨H5.out.p.setOther (by have:=HGL.out;omega) _ _,H5.out.r.setOther (by have:=HGL.out;omega) _ _⟩
   go_wp2_with (first
   | (refine wpList_load_mid (P:=Tryz.prog) rfl 35 _ rfl w.heap.size 0 rfl (hoL H s) _ H7.out.p.load Tryz.underlying35 rfl (sz41L H s) ?_)
   | (refine wpList_store_mid (P:=Tryz.prog) rfl 35 _ _ rfl (w.heap.size+1) 0 (hoL H s).toArray rfl rfl (H7.out.r.there 0 _ (by rw[List.size_toArray,hoL_len];decide)) (sz41A H s) (hoL_one H s) ?_;generalize hW9:World.setCells _ (w.heap.size+1) 0 _=w9;have HW9:Hid (_=w9):=hW9;clear hW9))
   have e9:=HW9.out
   have hF:blk w9 (w.heap.size+1) (hoL H s) 35:=by
    rw[← e9]
    have:=blk.put [] Z10 [] (hoL H s) (w:=w5.setCell ⟨gb,k*8,none⟩ (.int .i64 3)) (b:=w.heap.size+1) (T:=35) (by simpa using H7.out.r) (by rw[hoL_len];rfl)
    simpa using this
   have hL:=run_loadVar_mid (P:=Tryz.prog) w9 (w.heap.size+1) 0 35 _ _ hF.load Tryz.underlying35 rfl (sz41L _ _)
   refine bodyPost_ret (v:=.agg (hoL H s).toArray) (results_cell Tryz.results76 _ w9 (w.heap.size+1) _ rfl hL) rfl ?_
   rw[HRL.out.2 HX1.out]
   refine⟨s,by rw[stHo_L],?_,?_⟩
   ·exact sp_state HS0.out HS5.out HB5.out (Below.refl _ _) HE.out.1 HX.out HKK.out 3 HPL.out e9
   ·rw[← e9];exact setCells_below (by have:=HZ0.out;omega) 0 _ ((HB5.out.mono HZ0.out).setCell (by have h1:=HX.out.lo;have h2:=HS0.out.o;show B≤gb;omega) _)
end Go.Proofs.YtaamahohdnbpiaaGreat
