import Derived.Test.YtkfcfigbgmbaiaaGreatK33
import Derived.Deep.DeepCutAuto
import Derived.Deep.CutBlock
namespace Go.Proofs.YtkfcfigbgmbaiaaGreat
set_option maxRecDepth 20000
open Go.RowKit
set_option linter.unusedVariables false
set_option maxHeartbeats 16000000
open Go.Value renaming int→I,slice→sL,bool→bO,pointer→pT,agg→aG
open Go.IntKind renaming i64→J
open Go.Ending renaming returned→rT
open Go.Proofs.Tryz renaming prog→Tp
variable {κ κ' : Nat → Nat} {H : Ho} {s : Sl} {w W W' : World}
theorem abort_G (h:hG κ H s w) (t:Int) (hn2:H.bx.length≤1000) (hn:H.qu.length≤1000) (hlo:0≤H.lo∧H.lo≤100000) :
  Calls Tp 201 #[aG (hoL H s).toArray,I J t] w (hA w κ (abHo H t)):=by
 have F0:Hid _:=fw.new2 h
 have HN:Hid (H.qu.length≤1000∧0≤H.lo∧H.lo≤100000):=⟨hn,hlo⟩
 have hnn:s.n2≤1000:=by have:=h.n2;omega
 clear h hn hlo hn2;go_enter Tryz.func201,Tryz.ntmps201
 go_wp2_with (refine fw.ld F0.out ?_)
 refine (l3find_any _ H s t F0.out.g.is.bx hnn).mono ?_
 rintro o w5 ⟨r,rfl,hr,hb5⟩;have F5:Hid (fw2 w κ κ H s (hoL H s) w5):=F0.out.below hb5
 have hR:=hr.tag
 clear hr hb5 F0;rcases hR with⟨rfl,hno⟩|⟨rfl,hk⟩
 ·obtain⟨u,hu⟩ : ∃ u,u=(if 0≤t∧t≤9999 then t else 0):=⟨_,rfl⟩
  have HRL:Hid (abHo H t=pH H (ev3 7 u 0)):=by show _=_;unfold abHo;rw[dif_neg hno,hu]
  have hc:(decide (t<0)=true∧Hid (u=0))∨(decide (t<0)=false∧decide (9999<t)=true∧Hid (u=0))∨(decide (t<0)=false∧decide (9999<t)=false∧Hid (u=t)):=by
   by_cases h1:t<0
   ·exact Or.inl ⟨by simpa using h1,by show _=_;rw[hu,if_neg (by omega)]⟩
   by_cases h2:9999<t
   ·exact Or.inr (Or.inl ⟨by simpa using h1,by simpa using h2,by show _=_;rw[hu,if_neg (by omega)]⟩)
   ·exact Or.inr (Or.inr ⟨by simpa using h1,by simpa using h2,by show _=_;rw[hu,if_pos (by omega)]⟩)
  clear hu hno;rcases hc with⟨d1,hu⟩|⟨d1,d2,hu⟩|⟨d1,d2,hu⟩
  all_goals
   go_wp2_with (refine fw.ld F5.out ?_)
   refine (say_G F5.out.g 7 _ 0 HN.out.1 HN.out.2).mono ?_
   rintro o w7 ⟨s1,κ1,rfl,G1⟩;have F7:=hidG (F5.out.call G1.out)
   clear F5 G1;go_wp2_with (refine fw.rt F7.out ?_;intro w8 b8 G8)
   refine bC Tryz.results201 (lv39 b8) ?_
   rw[HRL.out,hu.out]
   exact⟨s1,κ1,rfl,G8⟩
 ·obtain⟨gb,hs0,e2,kb,hx,hxc⟩:=F5.out.g.x
  have HRL:Hid ((H.bx[tagIx H.bx t].x=1→abHo H t=pH (freeHo H (tagIx H.bx t)) (ev3 6 t 0))∧(H.bx[tagIx H.bx t].x≠1→abHo H t=stHo H (tagIx H.bx t) 3)):=by
   refine⟨fun e=>?_,fun e=>?_⟩
   ·unfold abHo;rw[dif_pos hk,if_pos e]
   ·unfold abHo;rw[dif_pos hk,if_neg e]
  generalize tagIx H.bx t=k at *;have x5:w5.cell? ⟨w.heap.size,5,none⟩=some (sL (some ⟨gb,0,none⟩) s.n2 s.k2):=by rw[← e2];exact F5.out.p.cell 5 _ (by unfold hoL;rfl)
  have hcp:=hx.cap
  have hkn:k<s.n2:=by have:=hx.len;omega
  have HE:=hidG e2
  have y0:w5.cell? ⟨gb,k*8,none⟩=some (I J H.bx[k].x):=hx.rng k hk 0 _ rfl
  have f0:w5.frozen? ⟨gb,k*8,none⟩=false:=(hx.row (k*8) (by omega)).2
  have HKK:=hidG hk
  clear hx e2 kb hxc;generalize H.bx[k].x=x at *;by_cases hx1:x=1
  ·have HX1:=hidG (HRL.out.1 hx1)
   subst hx1;go_wp2_with (first | (refine fw.bx F5.out HE.out HKK.out z8 (none,0,0) (none8 _) (Or.inl ⟨rfl,rfl⟩) ?_;intro w7 F7 _) | (refine fw.ld F7.out ?_))
   have F7:Hid (fw2 w κ κ (freeHo H k) s (hoL (freeHo H k) s) w7):=F7
   refine (say_G F7.out.g 6 t 0 HN.out.1 HN.out.2).mono ?_
   rintro o w9 ⟨s1,κ1,rfl,G1⟩;have F9:=hidG (F7.out.call G1.out)
   clear F7 G1;go_wp2_with (refine fw.rt F9.out ?_;intro w8 b8 G8)
   refine bC Tryz.results201 (lv39 b8) ?_
   rw[HX1.out]
   exact⟨s1,κ1,rfl,G8⟩
  ·have HX1:=hidG (HRL.out.2 hx1)
   have hx1':(x == 1)=false:=by simpa using hx1
   have F7:=hidG (F5.out.call (F5.out.g.setX HE.out HKK.out 3))
   rw[← stHo_L H k 3 s] at F7
   go_wp2_with (first | (refine fw.ld F7.out ?_) | (refine fw.rt F7.out ?_;intro w8 b8 G8))
   refine bC Tryz.results201 (lv39 b8) ?_
   rw[HX1.out]
   exact⟨s,κ,rfl,G8⟩
theorem release_G (h:hG κ H s w) (sent:Bool) (hn2:H.bx.length≤1000) (hn:H.qu.length≤1000) (hlo:0≤H.lo∧H.lo≤100000) (hsm:∀ j (h:j<H.bx.length),H.bx[j].l.length≤1048576) :
  Calls Tp 102 #[aG (hoL H s).toArray,bO sent] w (hA w κ (relHo H sent)):=by
 have F0:Hid _:=fw.new2 h
 have HN:Hid (H.qu.length≤1000∧0≤H.lo∧H.lo≤100000):=⟨hn,hlo⟩
 have hnn:s.n2≤1000:=by have:=h.n2;omega
 have HSM:=hidG hsm
 clear h hn hlo hn2 hsm;go_enter Tryz.func102,Tryz.ntmps102
 go_wp2_with (refine fw.ld F0.out ?_)
 refine (l3busy_any _ H s F0.out.g.is.bx hnn).mono ?_
 rintro o w5 ⟨r,rfl,hr,hb5⟩;have F5:Hid (fw2 w κ κ H s (hoL H s) w5):=F0.out.below hb5
 have hR:=hr.ix
 clear hr hb5 F0;rcases hR with⟨rfl,hno⟩|⟨rfl,hk⟩
 ·have HT:Hid (relHo H sent=H):=relHo_none hno
  go_wp2_with (first | (refine fw.ld F5.out ?_) | (refine fw.rt F5.out ?_;intro w8 b8 G8))
  refine bC Tryz.results102 (lv39 b8) ?_
  rw[HT.out]
  exact⟨s,κ,rfl,G8⟩
 ·have hw5:=wireIx_on hk
  have HRL:Hid (relHo H sent=if sent=true then pH (freeHo H (wI H.bx)) ⟨1,H.bx[wI H.bx].y,0,H.bx[wI H.bx].e,H.bx[wI H.bx].i,H.bx[wI H.bx].r,H.bx[wI H.bx].d,H.bx[wI H.bx].l⟩ else if H.bx[wI H.bx].x=3 then pH (freeHo H (wI H.bx)) (ev3 6 H.bx[wI H.bx].y 0) else stHo H (wI H.bx) 1):=by
   show relHo H sent=_
   unfold relHo
   rw[dif_pos hk]
  generalize wI H.bx=k at *;obtain⟨gb,hs0,e2,kb,hx,hxc⟩:=F5.out.g.x
  have x5:w5.cell? ⟨w.heap.size,5,none⟩=some (sL (some ⟨gb,0,none⟩) s.n2 s.k2):=by rw[← e2];exact F5.out.p.cell 5 _ (by unfold hoL;rfl)
  have hcp:=hx.cap
  have hkn:k<s.n2:=by have:=hx.len;omega
  have HE:=hidG e2
  have HKK:=hidG hk
  have HRG:=hidG (hx.rng k hk)
  have HDT:=hidG (hx.dat k hk)
  have HMM:Hid ((hs0 k).2.1≤1048576):=by
   have:=(hx.dat k hk).1.len
   have:=HSM.out k hk
   show _≤_
   omega
  clear hx e2 kb hxc HSM;generalize H.bx[k]=bk at *;generalize hs0 k=hk' at *;obtain⟨bX,bY,bZ,bE,bI,bR,bD,bL⟩:=bk
  obtain⟨ao,m,c⟩:=hk'
  simp only[] at HRG HDT HMM HRL hw5
  have F6:Hid (fw w κ w.heap.size (w.heap.size+1) w5.heap.size [I J bX,I J bY,I J bZ,bO bE,I .u32 (bI:Int),bO bR,I J bD,sL ao m c] 166 κ H s (hoL H s) (World.setCells (w5.alloc (.cells [I J 0,I J 0,I J 0,bO false,I .u32 0,bO false,I J 0,sL none 0 0].toArray 166)) w5.heap.size 0 [I J bX,I J bY,I J bZ,bO bE,I .u32 (bI:Int),bO bR,I J bD,sL ao m c])):=F5.out.var (new_box _ rfl).2 (new_box _ rfl).1
  have HB6:Hid (∀ x,x<w5.heap.size→(World.setCells (w5.alloc (.cells [I J 0,I J 0,I J 0,bO false,I .u32 0,bO false,I J 0,sL none 0 0].toArray 166)) w5.heap.size 0 [I J bX,I J bY,I J bZ,bO bE,I .u32 (bI:Int),bO bR,I J bD,sL ao m c]).heap[x]?=w5.heap[x]?):=fun x hx=>(new_box _ rfl).2.block x hx
  have HAL:Hid (blk (w5.alloc (.cells [I J 0,I J 0,I J 0,bO false,I .u32 0,bO false,I J 0,sL none 0 0].toArray 166)) w5.heap.size ([]++[I J 0,I J 0,I J 0,bO false,I .u32 0,bO false,I J 0,sL none 0 0]++[]) 166):=blk.new w5 _ 166
  go_upto_region 5 with (first
   | (refine lq166 (cs:=[I J bX,I J bY,I J bZ,bO bE,I .u32 (bI:Int),bO bR,I J bD,sL ao m c]) HRG.out ?_)
   | (refine wpList_store_mid (P:=Tp) rfl 166 _ _ rfl w5.heap.size 0 _ rfl rfl (HAL.out.there 0 8 (by simp)) sz95 (one8 _ _ _ _ _ _ _ _ _ _) ?_))
  generalize hW6:World.setCells (w5.alloc _) w5.heap.size 0 _=w6 at *;clear hW6 HAL;have x6:w6.cell? ⟨w.heap.size,5,none⟩=some (sL (some ⟨gb,0,none⟩) s.n2 s.k2):=by rw[← HE.out];exact F6.out.p.cell 5 _ (by unfold hoL;rfl)
  have y0:=F6.out.f.cell 0 _ rfl
  have y1:=F6.out.f.cell 1 _ rfl
  have y2:=F6.out.f.cell 2 _ rfl
  have y3:=F6.out.f.cell 3 _ rfl
  have HD6:Hid (iB w6 ao m c bL):=by
   rcases HDT.out with⟨d1,⟨d2,d3⟩|⟨g,d2,d3,d4,d5⟩⟩
   ·exact d1.none0 d3
   ·cases d2;exact d1.other (HB6.out g d4)
  have HD5:Hid (∀ V:World,(∀ x,x≠gb→V.heap[x]?=w6.heap[x]?)→iB V ao m c bL):=fun V hV=>by
   rcases HDT.out with⟨d1,⟨d2,d3⟩|⟨g,d2,d3,d4,d5⟩⟩
   ·exact d1.none0 d3
   ·cases d2;exact d1.other ((hV g d5).trans (HB6.out g d4))
  clear x5 HB6 HRG HDT HD6;cases sent
  ·by_cases hb:bX=3
   ·have HT:Hid (relHo H false=pH (freeHo H k) (ev3 6 bY 0)):=by show _=_;rw[HRL.out,if_neg (by decide),if_pos hb]
    subst hb;go_wp2_with (first | (refine fw.bx F6.out HE.out HKK.out z8 (none,0,0) (none8 _) (Or.inl ⟨rfl,rfl⟩) ?_;intro w7 F7 _;have y7:=F7.out.f.cell 1 _ rfl) | (refine fw.ld F7.out ?_))
    refine (say_G F7.out.g 6 bY 0 HN.out.1 HN.out.2).mono ?_
    rintro o w9 ⟨s1,κ1,rfl,G1⟩;have F9:=hidG (F7.out.call G1.out)
    clear F7 G1;go_wp2_with (refine fw.rt F9.out ?_;intro w8 b8 G8)
    refine bC Tryz.results102 (lv39 b8) ?_
    rw[HT.out]
    exact⟨s1,κ1,rfl,G8⟩
   ·have HT:Hid (relHo H false=stHo H k 1):=by show _=_;rw[HRL.out,if_neg (by decide),if_neg hb]
    have hb':(bX == 3)=false:=by simpa using hb
    obtain⟨gb',hs6,e6,kb,hx6,_⟩:=F6.out.g.x
    obtain rfl:gb'=gb:=by rw[HE.out] at e6;cases e6;rfl
    have f0:w6.frozen? ⟨gb',k*8,none⟩=false:=(hx6.row (k*8) (by omega)).2
    obtain⟨v0,z0⟩:=(hx6.row (k*8) (by omega)).1
    have F7:=hidG (F6.out.call (F6.out.g.setX HE.out HKK.out 1))
    rw[← stHo_L H k 1 s] at F7
    clear hx6 e6 kb;go_wp2_with (first | (refine fw.ld F7.out ?_) | (refine fw.rt F7.out ?_;intro w8 b8 G8))
    refine bC Tryz.results102 (lv39 b8) ?_
    rw[HT.out]
    exact⟨s,κ,rfl,G8⟩
  ·have HT:Hid (relHo H true=pH (freeHo H k) ⟨1,bY,0,bE,bI,bR,bD,bL⟩):=by show _=_;rw[HRL.out,if_pos rfl]
   go_wp2_with (first | (refine fw.bx F6.out HE.out HKK.out z8 (none,0,0) (none8 _) (Or.inl ⟨rfl,rfl⟩) ?_;intro w7 F7 E7;have y7:=F7.out.f.cell 1 _ rfl) | (refine fw.ld F7.out ?_) | (refine lq55 (cs:=[bO bE,I .u32 (bI:Int),bO bR,I J bD,sL ao m c]) (F7.out.f.loadAt [I J bX,I J bY,I J bZ] _ []) ?_))
   refine (post_G F7.out.g ⟨1,bY,0,bE,bI,bR,bD,bL⟩ ao m c HN.out.1 HN.out.2 (HD5.out _ E7.out) HMM.out).mono ?_
   rintro o w9 ⟨s1,κ1,rfl,G1⟩;have F9:=hidG (F7.out.call G1.out)
   clear F7 G1;go_wp2_with (refine fw.rt F9.out ?_;intro w8 b8 G8)
   refine bC Tryz.results102 (lv39 b8) ?_
   rw[HT.out]
   exact⟨s1,κ1,rfl,G8⟩
variable {κ κ' : Nat → Nat} {H : Ho} {s : Sl} {w W W' : World}
theorem take_G (h:hG κ H s w) (i:Int) (hn2:H.bx.length≤1000) :
  Calls Tp 163 #[aG (hoL H s).toArray,I J i] w (hA w κ (takeHo H i)):=by
 have F0:Hid _:=fw.new2 h
 have HLN:=hidG h.n2
 have hnn:s.n2≤1000:=by have:=h.n2;omega
 clear h;go_enter Tryz.func163,Tryz.ntmps163
 go_upto_region 1 with fail
 generalize hV:World.alloc (World.alloc w _) _=v at *;clear hV;have F0:Hid (fw2 w κ κ H s (hoL H s) v):=F0
 obtain⟨gb,hs0,ea,kb,hx,hxc⟩:=F0.out.g.x
 have x5:v.cell? ⟨w.heap.size,5,none⟩=some (sL (some ⟨gb,0,none⟩) s.n2 s.k2):=by rw[← ea];exact F0.out.p.cell 5 _ (by unfold hoL;rfl)
 have HX:=hidG hx
 have HA:=hidG ea
 have hcp:=hx.cap
 clear hx ea kb hxc;go_cut [27] (fun x wx=>∃ b:Bool,x = bO b∧Hid (b=true→takeB H.bx i=H.bx)∧Hid (b=false→∃ (k:Nat) (hk:k<H.bx.length),i=(k:Int)∧H.bx[k].x=1∧takeB H.bx i=H.bx.set k { H.bx[k] with x:=2 })∧Hid (fw2 w κ κ H s (hoL H s) wx))
 case first=>
  by_cases hi0:i<0
  ·have d0:decide (i<0)=true:=by simpa using hi0
   have HT:=hidG (takeB_out (bx:=H.bx) (Or.inl hi0))
   clear hi0;go_wp2_with fail;go_meet
   case rel=>exact⟨true,rfl,fun _=>HT.out,fun x=>(by cases x),F0⟩
  by_cases hi1:(s.n2:Int)≤i
  ·have d0:decide (i<0)=false:=by simpa using hi0
   have d1:decide ((s.n2:Int)≤i)=true:=by simpa using hi1
   have HT:=hidG (takeB_out (bx:=H.bx) (i:=i) (Or.inr (by have:=HLN.out;omega)))
   go_wp2_with fail;go_meet
   case rel=>exact⟨true,rfl,fun _=>HT.out,fun x=>(by cases x),F0⟩
  obtain⟨k,rfl⟩ : ∃ k:Nat,i=(k:Int):=⟨i.toNat,by omega⟩
  have hk2:k<s.n2:=by omega
  have hk:k<H.bx.length:=by have:=HLN.out;omega
  have Y0:Hid (∀ u,H.bx[k].x=u→v.cell? ⟨gb,k*8,none⟩=some (I J u)):=fun u e=>by subst e;exact HX.out.rng k hk 0 _ rfl
  have d0:decide ((k:Int)<0)=false:=by simp
  have d1:decide (s.n2≤k)=false:=by simp;omega
  have HKK:=hidG hk
  clear hi0 hi1;by_cases hx:H.bx[k].x=1
  ·have HX1:=hidG hx
   have y0:=Y0.out 1 hx
   clear hx;go_wp2_with (refine wpList_load_midG (by first | rfl | (simp[Region.wanted,yielded];done)) 39 (.tmp 2) rfl w.heap.size 0 rfl (hoL H s) _ F0.out.p.load Tryz.underlying39 rfl (sz41L H s) ?_)
   refine (l3busy_any v H s F0.out.g.is.bx hnn).mono ?_
   rintro o w5 ⟨r,rfl,hr,hb5⟩;have HR:=hidG hr
   have F5:=hidG (F0.out.below hb5)
   clear hr hb5;by_cases h0:0≤r
   ·have dr:decide (0≤r)=true:=by simpa using h0
    have HT:=hidG (takeB_busy (i:=(k:Int)) HR.out h0)
    clear h0;go_wp2_with fail;go_meet
    case rel=>exact⟨true,rfl,fun _=>HT.out,fun x=>(by cases x),F5⟩
   ·have dr:decide (0≤r)=false:=by simpa using h0
    have HT:=hidG (takeB_yes HKK.out HX1.out HR.out (by omega))
    clear h0;go_wp2_with fail;go_meet
    case rel=>exact⟨false,rfl,fun x=>(by cases x),fun _=>⟨k,HKK.out,rfl,HX1.out,HT.out⟩,F5⟩
  ·have HT:=hidG (takeB_no hk hx)
   obtain⟨u,ev⟩ : ∃ u,H.bx[k].x=u:=⟨_,rfl⟩
   have y0:=Y0.out u ev
   have hx':(u != 1)=true:=by rw[← ev];simpa using hx
   clear hx ev;go_wp2_with fail;go_meet
   case rel=>exact⟨true,rfl,fun _=>HT.out,fun x=>(by cases x),F0⟩
 case rest=>
 obtain⟨b,rfl,f1,f2,F5⟩:=hcut
 clear F0 x5;cases b
 case true=>
  have HT:Hid (takeHo H i=H):=by show _=_;unfold takeHo;rw[f1.out rfl]
  go_wp2_with (first | (refine fw.ld F5.out ?_) | (refine fw.rt F5.out ?_;intro w8 b8 G8))
  refine bC Tryz.results163 (lv39 b8) ?_
  rw[HT.out]
  exact⟨s,κ,rfl,G8⟩
 case false=>
 obtain⟨k,hk,ei,hx1,ht⟩:=f2.out rfl
 subst ei;have HT:Hid (takeHo H (k:Int)=stHo H k 2):=by show _=_;unfold takeHo;rw[ht,stHo_yes hk]
 have hk2:k<s.n2:=by have:=HLN.out;omega
 obtain⟨gb',hs5,ea',kb,hx,hxc⟩:=F5.out.g.x
 obtain rfl:gb'=gb:=by rw[HA.out] at ea';cases ea';rfl
 have x5:wc.cell? ⟨w.heap.size,5,none⟩=some (sL (some ⟨gb',0,none⟩) s.n2 s.k2):=by rw[← ea'];exact F5.out.p.cell 5 _ (by unfold hoL;rfl)
 have y0:wc.cell? ⟨gb',k*8,none⟩=some (I J 1):=by rw[← hx1];exact hx.rng k hk 0 _ rfl
 have z0:=(hx.row (k*8) (by omega)).2
 have F7:=hidG (F5.out.call (F5.out.g.setX ea' hk 2))
 rw[← stHo_L H k 2 s] at F7
 clear hk hx1 ht f1 f2 hx hxc kb ea' HX;go_upto_region 4 with fail
 go_wp2_with (first | (refine fw.ld F7.out ?_) | (refine fw.rt F7.out ?_;intro w8 b8 G8))
 refine bC Tryz.results163 (lv39 b8) ?_
 rw[HT.out]
 exact⟨s,κ,rfl,G8⟩
end Go.Proofs.YtkfcfigbgmbaiaaGreat
