import Derived.Test.YtkfcfigbgmbaiaaGreatK40
import Derived.Test.YtkfcfigbgmbaiaaGreatK39
import Derived.Test.YtkfcfigbgmbaiaaGreatK41
import Derived.Test.YtkfcfigbgmbaiaaGreatK37
import Derived.Test.YtkfcfigbgmbaiaaGreatK44
import Derived.Deep.DeepCutAuto
import Derived.StillTailTactics
namespace Go.Proofs.YtkfcfigbgmbaiaaGreat
open Go.RowKit
set_option linter.unusedVariables false
set_option maxHeartbeats 16000000
theorem k41.of {T2 g4 n k:Nat} {w W:World} {bs:List R8} (hq:rowQ8 T2 w.heap.size 67 g4 n k bs w) (h:∀ q,T2≤q→q<w.heap.size→q≠g4→W.heap[q]?=w.heap[q]?):k41 T2 w W:=fun q L hq' hb=>hb.kept (h q hq' hb.lt (fun e=>hq.neT hb e.symm))
set_option maxRecDepth 20000 in
theorem l3del_c (B T0 T1 T2:Nat) (w:World) (H:Ho) (s:Sl) (F:R5) (fa:Option Addr) (fm fc:Nat) (h:spS B T0 T1 T2 H s w) (hn1:s.n1≤1000) (hn3:s.n3≤1000) (hn4:s.n4≤900) (hlo:0≤H.lo∧H.lo≤100000) (hf':∀ V,Below B w V→isBytes V fa fm fc F.l) (hfm:fm≤1048576) (hsm:∀ j (h:j<H.ff.length),H.ff[j].l.length≤1048576) (hc1:1≤H.c1∧H.c1≤1000∧(H.ff.length:Int)≤H.c1) (hc2:H.c2=0∨H.c2=1) :
  Calls Tryz.prog 110 #[.agg (hoL H s).toArray,frV F.e F.i F.r F.d fa fm fc] w fun o w'=>∃ s' g',o = .returned (.agg (hoL (delHo H F) s').toArray)∧dv w T2 (delHo H F) s' g' w'∧k41 T2 w w'∧Below B w w':=by
 have HFA:Hid (∀ V,Below B w V→isBytes V fa fm fc F.l):=hf'
 have HA:Hid (sbS w (hoL H s) [.bool F.e,.int .u32 (F.i:Int),.bool F.r,.int .i64 F.d,.slice fa fm fc] (((w.alloc (.cells (hoL H s).toArray 39)).alloc (.cells [.bool F.e,.int .u32 (F.i:Int),.bool F.r,.int .i64 F.d,.slice fa fm fc].toArray 55)).alloc (.cells zX.toArray 39))):=sbS.new w _ _
 have HBA:Hid (Below w.heap.size w (((w.alloc (.cells (hoL H s).toArray 39)).alloc (.cells [.bool F.e,.int .u32 (F.i:Int),.bool F.r,.int .i64 F.d,.slice fa fm fc].toArray 55)).alloc (.cells zX.toArray 39))):=(((Below.refl _ _).alloc (Nat.le_refl _) _).alloc (by simp) _).alloc (by simp;omega) _
 have HS0:Hid (spS B T0 T1 T2 H s w):=h
 have HZ0:Hid (B≤w.heap.size∧T2≤w.heap.size∧B≤T2):=by have:=h.o;exact⟨by omega,by omega,by omega⟩
 obtain⟨g4,e4,hq4⟩:=h.q
 have HE4:Hid (s.a4=some ⟨g4,0,none⟩∧g4<w.heap.size∧T2≤g4):=⟨e4,hq4.ghi,hq4.glt⟩
 have HQ0:Hid (rowQ8 T2 w.heap.size 67 g4 s.n4 s.k4 H.qu w):=hq4
 have HK:Hid (∀ W:World,(∀ q,T2≤q→q<w.heap.size→q≠g4→W.heap[q]?=w.heap[q]?)→k41 T2 w W):=fun W hW=>k41.of hq4 hW
 have HFL:Hid (fm=F.l.length):=(hf' w (Below.refl _ _)).len
 obtain⟨gq,e3,hq3⟩:=h.r
 have HE3:Hid (s.a3=some ⟨gq,0,none⟩∧rowQ5 T1 T2 55 gq s.n3 s.k3 H.ff w):=⟨e3,hq3⟩
 have hl3:=hq3.is.len
 have hk3:=hq3.is.cap
 obtain⟨va,eva⟩ : ∃ b,validB F.e F.i F.r F.d fm=b:=⟨_,rfl⟩
 obtain⟨pa,epa⟩ : ∃ b,passB H.fs F=b:=⟨_,rfl⟩
 have HD:Hid (delHo H F=if (va && pa)=true then (if (H.ff.length:Int)=H.c1 then (if H.c2=0 then postHo H (evF 3 0 0 F) else match H.ff with | []=>H | f :: r=>postHo (fHo (postHo H (evF 3 0 0 f)) (r++[F])) (evF 2 0 0 F)) else postHo (fHo H (H.ff++[F])) (evF 2 0 0 F)) else H):=by
  show _=_
  rw[← eva,← epa,HFL.out]
  unfold delHo
  simp only[Bool.and_eq_true]
  rfl
 have HVC:Hid (∀ W,Calls Tryz.prog 47 #[frV F.e F.i F.r F.d fa fm fc] W fun o w'=>o = .returned (.bool va)∧Below W.heap.size W w'):=fun W=>by
  have:=specValid_any W F.e F.i F.r F.d fa fm fc
  rw[eva] at this
  exact this
 have HPC:Hid (∀ W,Below w.heap.size w W→Calls Tryz.prog 155 #[.slice s.a1 s.n1 s.k1,frV F.e F.i F.r F.d fa fm fc] W fun o w'=>o = .returned (.bool pa)∧Below W.heap.size W w'):=fun W hW=>by
  have:=l3passes_any W s.a1 s.n1 s.k1 H.fs F fa fm fc (HS0.out.below hW).is.fs hn1
  rw[epa] at this
  exact this
 have HSM:Hid (∀ j (h:j<H.ff.length),H.ff[j].l.length≤1048576):=hsm
 have HC1:Hid (1≤H.c1∧H.c1≤1000∧(H.ff.length:Int)≤H.c1):=hc1
 have HC2:Hid (H.c2=0∨H.c2=1):=hc2
 have HL3:Hid (s.n3=H.ff.length):=hl3
 clear hf' h e4 hq4 e3 hq3 eva epa hsm hc1 hc2 hl3;go_enter Tryz.func110,Tryz.ntmps110
 go_upto_region 1 with fail
 generalize (((w.alloc (.cells (hoL H s).toArray 39)).alloc (.cells [.bool F.e,.int .u32 (F.i:Int),.bool F.r,.int .i64 F.d,.slice fa fm fc].toArray 55)).alloc (.cells zX.toArray 39))=v0 at *;go_cut [14] (fun x wx=>x = .bool (!(va && pa))∧Hid (sbS w (hoL H s) [.bool F.e,.int .u32 (F.i:Int),.bool F.r,.int .i64 F.d,.slice fa fm fc] wx)∧Hid (Below w.heap.size w wx))
 case first=>
  go_wp2_with (first | (refine wpList_load_mid (P:=Tryz.prog) rfl 55 (.tmp 3) rfl (w.heap.size+1) 0 rfl [.bool F.e,.int .u32 (F.i:Int),.bool F.r,.int .i64 F.d,.slice fa fm fc] _ HA.out.f.load Tryz.underlying55 rfl sz93 ?_))
  refine (HVC.out _).mono ?_
  rintro o w1 ⟨rfl,hb1⟩;have HB1:Hid (sbS w (hoL H s) [.bool F.e,.int .u32 (F.i:Int),.bool F.r,.int .i64 F.d,.slice fa fm fc] w1):=HA.out.below hb1
  have HW1:Hid (Below w.heap.size w w1):=HBA.out.trans (hb1.mono HBA.out.size)
  clear hb1;cases va
  ·go_wp2_with fail;go_meet
   case rel=>exact⟨rfl,HB1.out,HW1.out⟩
  ·have x4:w1.cell? ⟨w.heap.size,4,none⟩=some (.slice s.a1 s.n1 s.k1):=HB1.out.p.cell 4 _ rfl
   go_wp2_with (first | (refine wpList_load_midG (by first | rfl | (simp[Region.wanted,yielded];done) | (simp[Region.wanted,yielded];omega)) 55 (.tmp 3) rfl (w.heap.size+1) 0 rfl [.bool F.e,.int .u32 (F.i:Int),.bool F.r,.int .i64 F.d,.slice fa fm fc] _ HB1.out.f.load Tryz.underlying55 rfl sz93 ?_))
   refine (HPC.out _ HW1.out).mono ?_
   rintro o w2 ⟨rfl,hb2⟩;have HB2:Hid (sbS w (hoL H s) [.bool F.e,.int .u32 (F.i:Int),.bool F.r,.int .i64 F.d,.slice fa fm fc] w2):=HB1.out.below hb2
   have HW2:Hid (Below w.heap.size w w2):=HW1.out.trans (hb2.mono HW1.out.size)
   clear hb2;cases pa <;> (
    go_wp2_with fail;go_meet
    case rel=>exact⟨rfl,HB2.out,HW2.out⟩)
 case rest=>
 obtain⟨rfl,HB,HBW⟩:=hcut
 obtain⟨vp,evp⟩ : ∃ b,(va && pa)=b:=⟨_,rfl⟩
 rw[evp] at HD
 rw[evp]
 clear HVC HPC HA HBA evp;cases vp
 ·have HDE:Hid (delHo H F=H):=by show _=_;rw[HD.out];rfl
  go_wp2_with (first | (refine wpList_load_mid (P:=Tryz.prog) rfl 39 (.tmp 2) rfl w.heap.size 0 rfl (hoL (H) (s)) _ HB.out.p.load Tryz.underlying39 rfl (sz41L _ _) ?_) | (refine wpList_store_mid (P:=Tryz.prog) rfl 39 (.tmp 4) (.tmp 15) rfl (w.heap.size+1+1) 0 (hoL (H) (s)).toArray rfl rfl (HB.out.r.there 0 _ (by rw[List.size_toArray,hoL_len];decide)) (sz41A _ _) (hoL_one _ _) ?_;generalize hX9:World.setCells wc (w.heap.size+1+1) 0 _=w9;have HX9:Hid (World.setCells wc (w.heap.size+1+1) 0 (hoL (H) (s))=w9):=hX9;clear hX9))
  have e9:=HX9.out
  have hF:blk w9 (w.heap.size+1+1) (hoL (H) (s)) 39:=by
   rw[← e9]
   have:=blk.put [] Z10 [] (hoL (H) (s)) (w:=wc) (b:=w.heap.size+1+1) (T:=39) (by simpa using HB.out.r) (by rw[hoL_len];rfl)
   rw[List.nil_append,List.append_nil] at this
   exact this
  have hL:=run_loadVar_mid (P:=Tryz.prog) w9 (w.heap.size+1+1) 0 39 _ _ hF.load Tryz.underlying39 rfl (sz41L _ _)
  refine bodyPost_ret (v:=.agg (hoL (H) (s)).toArray) (results_cell Tryz.results110 _ w9 (w.heap.size+1+1) _ rfl hL) rfl ?_
  have oth9:∀ x,x≠w.heap.size+1+1→w9.heap[x]?=wc.heap[x]?:=fun x hx=>by rw[← e9];exact setCells_other _ x hx _ _ _
  have hz9:w9.heap.size=wc.heap.size:=by rw[← e9];exact setCells_size ..
  have hb9:Below w.heap.size w w9:=by rw[← e9];exact setCells_below (by omega) 0 _ HBW.out
  obtain⟨g',hd'⟩:=dv_of (HS0.out.below hb9) HZ0.out.2.1
  rw[HDE.out]
  exact⟨s,g',rfl,hd',k41.below hb9,hb9.mono HZ0.out.1⟩
 have HD2:Hid (delHo H F=if (H.ff.length:Int)=H.c1 then (if H.c2=0 then postHo H (evF 3 0 0 F) else match H.ff with | []=>H | f :: r=>postHo (fHo (postHo H (evF 3 0 0 f)) (r++[F])) (evF 2 0 0 F)) else postHo (fHo H (H.ff++[F])) (evF 2 0 0 F)):=by show _=_;rw[HD.out];rfl
 clear HD;have x6:wc.cell? ⟨w.heap.size,6,none⟩=some (.slice (some ⟨gq,0,none⟩) s.n3 s.k3):=by
  rw[← HE3.out.1]
  exact HB.out.p.cell 6 _ (by unfold hoL;rfl)
 have x1:wc.cell? ⟨w.heap.size,1,none⟩=some (.int .i64 H.c1):=HB.out.p.cell 1 _ (by unfold hoL;rfl)
 have x2:wc.cell? ⟨w.heap.size,2,none⟩=some (.int .i64 H.c2):=HB.out.p.cell 2 _ (by unfold hoL;rfl)
 obtain⟨fu,efu⟩ : ∃ b,((s.n3:Int) == H.c1)=b:=⟨_,rfl⟩
 have HFU:Hid (((H.ff.length:Int)=H.c1)↔fu=true):=by show _↔_;rw[← HL3.out,← efu];simp
 obtain⟨b0,eb0⟩ : ∃ b,(H.c2 == 0)=b:=⟨_,rfl⟩
 have HB0:Hid ((H.c2=0)↔b0=true):=by show _↔_;rw[← eb0];simp
 go_upto_if 22 with fail
 go_cut [] (fun wx=>∃ H1 s1 off hs g1,Hid (dlS B T0 T1 T2 w H1 s1 [.bool F.e,.int .u32 (F.i:Int),.bool F.r,.int .i64 F.d,.slice fa fm fc] gq off hs g1 g4 wx)∧Hid (delHo H F=postHo (fHo H1 (H1.ff++[F])) (evF 2 0 0 F))∧Hid (s1.n3≤1000∧s1.n4≤1000∧0≤H1.lo∧H1.lo≤100000))
 case first=>
  cases fu
  ·have HDE:Hid (delHo H F=postHo (fHo H (H.ff++[F])) (evF 2 0 0 F)):=by show _=_;rw[HD2.out,if_neg (fun e=>by have:=HFU.out.1 e;cases this)]
   obtain⟨hs,hdl⟩:=dlS.first HB.out HS0.out HBW.out HE3.out.1 HE3.out.2 HE4.out.1 HQ0.out
   have HDL:=hidX hdl
   clear hdl;go_wp2_with fail;go_meet
   case rel=>exact⟨H,s,0,hs,g4,HDL.out,HDE.out,hn3,by omega,hlo⟩
  ·have hfu:=HFU.out.2 rfl
   have HBZ:Hid (spS B T0 T1 T2 H s wc):=HS0.out.below HBW.out
   have HQ:Hid (rowQ8 T2 w.heap.size 67 g4 s.n4 s.k4 H.qu wc):=HQ0.out.keep fun x _ h2=>HBW.out.block x h2
   cases b0
   ·obtain⟨fE,fI,fR,fD,fL,r,hfr⟩ : ∃ fE fI fR fD fL r,H.ff=⟨fE,fI,fR,fD,fL⟩ :: r:=by
     cases hff:H.ff with
     | nil=>rw[hff] at hfu;have:=HC1.out;simp at hfu;omega
     | cons f r=>exact⟨f.e,f.i,f.r,f.d,f.l,r,rfl⟩
    have HFR:Hid (H.ff=⟨fE,fI,fR,fD,fL⟩ :: r):=hfr
    have HDE:Hid (delHo H F=postHo (fHo (fHo (postHo H ⟨3,0,0,fE,fI,fR,fD,fL⟩) r) ((fHo (postHo H ⟨3,0,0,fE,fI,fR,fD,fL⟩) r).ff++[F])) (evF 2 0 0 F)):=by
     show _=_
     rw[HD2.out,if_pos hfu,if_neg (fun e=>by have:=HB0.out.1 e;cases this),hfr]
    obtain⟨ao,m,c,hat⟩ : ∃ ao m c,at5 w gq 0 ⟨fE,fI,fR,fD,fL⟩ ao m c:=by
     have h5:=HE3.out.2.is
     rw[HFR.out] at h5
     obtain⟨g',off,e,hx⟩:=h5.cells (by simp)
     cases e
     obtain⟨ao,m,c,q⟩:=hx 0 (by simp)
     exact⟨ao,m,c,by simpa using q⟩
    have hat5:=hat.below HBW.out
    have HM:Hid (m≤1048576):=by
     have h1:=HSM.out 0 (by rw[HFR.out];simp)
     have h2:=hat.dat.len
     have e:H.ff[0]'(by rw[HFR.out];simp)=⟨fE,fI,fR,fD,fL⟩:=by simp[HFR.out]
     rw[e] at h1
     show m≤_
     have h3:m=fL.length:=h2
     have h4:fL.length≤1048576:=h1
     omega
    have hl3:s.n3=r.length+1:=by rw[HL3.out,hfr];rfl
    have hn0:0<s.n3:=by omega
    have HRG:Hid (wc.rangeAt gq 0 [.bool fE,.int .u32 (fI:Int),.bool fR,.int .i64 fD,.slice ao m c]):=hat5.range
    have HDT:Hid (isBytes wc ao m c fL):=hat5.dat
    have HL4:Hid (s.n3=r.length+1):=hl3
    clear hat hat5 hfr hl3 hfu HD2 HL3;go_wp2_with fail;refine wp_region_still_tail 5 (by kernel_rfl) (by kernel_rfl) ?_
    change wpStill Tryz.prog _ (World.drew wc) (fun a'=>wpList Tryz.prog _ _ _ a' (World.drew wc)) _ _
    have HBd:Hid (Below wc.heap.size wc (World.drew wc)):=(Below.refl _ _).drew
    have HBv:Hid (Below w.heap.size w (World.drew wc)):=HBW.out.drew
    have HBB:Hid (sbS w (hoL H s) [.bool F.e,.int .u32 (F.i:Int),.bool F.r,.int .i64 F.d,.slice fa fm fc] (World.drew wc)):=HB.out.below HBd.out
    have HSv:Hid (spS B T0 T1 T2 H s (World.drew wc)):=HS0.out.below HBv.out
    have HQv:Hid (rowQ8 T2 w.heap.size 67 g4 s.n4 s.k4 H.qu (World.drew wc)):=HQ.out.keep (fun _ _ _=>rfl)
    have HRv:Hid ((World.drew wc).rangeAt gq 0 [.bool fE,.int .u32 (fI:Int),.bool fR,.int .i64 fD,.slice ao m c]):=HRG.out
    have HDv:Hid (isBytes (World.drew wc) ao m c fL):=HDT.out.below HBd.out
    have x6v:(World.drew wc).cell? ⟨w.heap.size,6,none⟩=some (.slice (some ⟨gq,0,none⟩) s.n3 s.k3):=x6
    clear HBd HB HBW HBZ HQ HRG HDT x6 x1 x2;generalize World.drew wc=v0 at *;simp only[List.take_succ_cons,List.take_zero,List.drop_succ_cons,List.drop_zero]
    refine wpStill_load_mid (by rfl) 39 _ rfl w.heap.size 0 rfl (hoL H s) _ HBB.out.p.load Tryz.underlying39 rfl (sz41L H s) ?_
    still_step
    still_step
    still_step
    refine wpStill_load_mid (by rfl) 55 _ rfl gq 0 rfl [.bool fE,.int .u32 (fI:Int),.bool fR,.int .i64 fD,.slice ao m c] _ HRv.out Tryz.underlying55 rfl sz93 ?_
    refine wpStill_nil ?_
    go_wp2_with fail;refine (l3post_g v0 H s T2 w.heap.size g4 ⟨3,0,0,fE,fI,fR,fD,fL⟩ ao m c HE4.out.1 HQv.out (by have:=HSv.out.o;omega) (by omega) hlo HDv.out HM.out).mono ?_
    rintro o w8 ⟨g',n',k',rfl,hV,ho8,hg8,hb8⟩;have HP8:Hid (blk w8 w.heap.size (hoL H s) 39):=HBB.out.p.kept (ho8 _ (by have:=HE4.out.2;omega) HBB.out.p.lt)
    have HB8:Hid (Below B w w8):=(HBv.out.mono HZ0.out.1).trans (hb8.mono HZ0.out.2.2)
    have HNW:Hid (∀ (W:World) (off k3:Nat),(∀ x,x≠w.heap.size→W.heap[x]?=w8.heap[x]?)→W.heap.size=w8.heap.size→blk W w.heap.size (hoL (fHo (postHo H ⟨3,0,0,fE,fI,fR,fD,fL⟩) r) (fSl (qSl s g' n' k') gq off r.length k3)) 39→((off=5∧k3=s.k3-1)∨(off=0∧k3=0∧s.k3=1))→Below B w W→∃ hs,dlS B T0 T1 T2 w (fHo (postHo H ⟨3,0,0,fE,fI,fR,fD,fL⟩) r) (fSl (qSl s g' n' k') gq off r.length k3) [.bool F.e,.int .u32 (F.i:Int),.bool F.r,.int .i64 F.d,.slice fa fm fc] gq off hs g' g4 W):=fun W off k3 h1 h2 h3 h4 h5=>dl_new HSv.out HBv.out HBB.out HS0.out.o.2.2.2 HE3.out.2 HFR.out HE4.out.2 hV ho8 hb8 h1 h2 h3 h4 h5 hg8
    have HNQ:Hid (r.length≤1000∧n'≤1000∧0≤loP H.c3 H.qu H.lo∧loP H.c3 H.qu H.lo≤100000):=by
     have h1:=(hV w8 (fun _ _ _ _=>rfl) (Nat.le_refl _)).is.len
     have h2:=quP_le H.c3 H.qu ⟨3,0,0,fE,fI,fR,fD,fL⟩
     have h3:=HQ0.out.is.len
     have h4:=HL4.out
     exact⟨by omega,by omega,loP_in hlo⟩
    clear hV ho8 hb8 hg8;have HK9:Hid (∀ w9,World.setCells w8 w.heap.size 0 (hoL (postHo H ⟨3,0,0,fE,fI,fR,fD,fL⟩) (qSl s g' n' k'))=w9→blk w9 w.heap.size (hoL (postHo H ⟨3,0,0,fE,fI,fR,fD,fL⟩) (qSl s g' n' k')) 39∧w9.cell? ⟨w.heap.size,6,none⟩=some (.slice (some ⟨gq,0,none⟩) (r.length+1) s.k3)):=fun w9 e9=>by
     have h9:=blk.put [] (hoL H s) [] (hoL (postHo H ⟨3,0,0,fE,fI,fR,fD,fL⟩) (qSl s g' n' k')) (w:=w8) (b:=w.heap.size) (T:=39) (by simpa using HP8.out) (by rw[hoL_len,hoL_len])
     rw[List.nil_append,List.append_nil,List.length_nil,e9] at h9
     refine⟨h9,?_⟩
     have hc:=h9.cell 6 _ (by unfold hoL;rfl)
     have e1:(qSl s g' n' k').a3=some ⟨gq,0,none⟩:=HE3.out.1
     have e2:(qSl s g' n' k').n3=r.length+1:=HL4.out
     rw[e1,e2] at hc
     exact hc
    clear HBB HBv HSv HQv HRv HDv HM x6v HSM HFR;by_cases hk1:s.k3=1
    ·have HK10:Hid (∀ w9,blk w9 w.heap.size (hoL (postHo H ⟨3,0,0,fE,fI,fR,fD,fL⟩) (qSl s g' n' k')) 39→blk (w9.setCell ⟨w.heap.size,6,none⟩ (.slice (some ⟨gq,0,none⟩) r.length 0)) w.heap.size (hoL (fHo (postHo H ⟨3,0,0,fE,fI,fR,fD,fL⟩) r) (fSl (qSl s g' n' k') gq 0 r.length 0)) 39):=fun w9 h9=>h9.set 6 _
     go_wp2_with (first | (refine wpList_store_mid (P:=Tryz.prog) rfl 39 _ _ rfl w.heap.size 0 (hoL (postHo H ⟨3,0,0,fE,fI,fR,fD,fL⟩) (qSl s g' n' k')).toArray rfl rfl (HP8.out.there 0 _ (by rw[List.size_toArray,hoL_len,hoL_len];decide)) (sz41A _ _) (hoL_one _ _) ?_;generalize hW9:World.setCells w8 w.heap.size 0 _=w9;have HW9:Hid (World.setCells w8 w.heap.size 0 (hoL (postHo H ⟨3,0,0,fE,fI,fR,fD,fL⟩) (qSl s g' n' k'))=w9):=hW9;clear hW9;have HQ9:Hid (blk w9 w.heap.size (hoL (postHo H ⟨3,0,0,fE,fI,fR,fD,fL⟩) (qSl s g' n' k')) 39):=(HK9.out _ HW9.out).1;have x9:=(HK9.out _ HW9.out).2;have f9:=HQ9.out.free 6))
     go_meet
     case rel=>
      obtain⟨hs5,hdl⟩:=HNW.out (w9.setCell ⟨w.heap.size,6,none⟩ (.slice (some ⟨gq,0,none⟩) r.length 0)) 0 0 (fun x hx=>by rw[heap_setCell_other _ _ _ _ (by exact hx),← HW9.out];exact setCells_other _ x hx _ _ _) (by rw[← HW9.out];simp[setCells_size]) (HK10.out _ HQ9.out) (Or.inr ⟨rfl,rfl,hk1⟩) (Below.setCell (by rw[← HW9.out];exact setCells_below HZ0.out.1 0 _ HB8.out) (by exact HZ0.out.1) _)
      exact⟨_,_,_,hs5,g',hdl,HDE.out,HNQ.out⟩
    ·have HK10:Hid (∀ w9,blk w9 w.heap.size (hoL (postHo H ⟨3,0,0,fE,fI,fR,fD,fL⟩) (qSl s g' n' k')) 39→blk (w9.setCell ⟨w.heap.size,6,none⟩ (.slice (some ⟨gq,5,none⟩) r.length (s.k3-1))) w.heap.size (hoL (fHo (postHo H ⟨3,0,0,fE,fI,fR,fD,fL⟩) r) (fSl (qSl s g' n' k') gq 5 r.length (s.k3-1))) 39):=fun w9 h9=>h9.set 6 _
     go_wp2_with (first | (refine wpList_store_mid (P:=Tryz.prog) rfl 39 _ _ rfl w.heap.size 0 (hoL (postHo H ⟨3,0,0,fE,fI,fR,fD,fL⟩) (qSl s g' n' k')).toArray rfl rfl (HP8.out.there 0 _ (by rw[List.size_toArray,hoL_len,hoL_len];decide)) (sz41A _ _) (hoL_one _ _) ?_;generalize hW9:World.setCells w8 w.heap.size 0 _=w9;have HW9:Hid (World.setCells w8 w.heap.size 0 (hoL (postHo H ⟨3,0,0,fE,fI,fR,fD,fL⟩) (qSl s g' n' k'))=w9):=hW9;clear hW9;have HQ9:Hid (blk w9 w.heap.size (hoL (postHo H ⟨3,0,0,fE,fI,fR,fD,fL⟩) (qSl s g' n' k')) 39):=(HK9.out _ HW9.out).1;have x9:=(HK9.out _ HW9.out).2;have f9:=HQ9.out.free 6))
     go_meet
     case rel=>
      obtain⟨hs5,hdl⟩:=HNW.out (w9.setCell ⟨w.heap.size,6,none⟩ (.slice (some ⟨gq,5,none⟩) r.length (s.k3-1))) 5 (s.k3-1) (fun x hx=>by rw[heap_setCell_other _ _ _ _ (by exact hx),← HW9.out];exact setCells_other _ x hx _ _ _) (by rw[← HW9.out];simp[setCells_size]) (HK10.out _ HQ9.out) (Or.inl ⟨rfl,rfl⟩) (Below.setCell (by rw[← HW9.out];exact setCells_below HZ0.out.1 0 _ HB8.out) (by exact HZ0.out.1) _)
      exact⟨_,_,_,hs5,g',hdl,HDE.out,HNQ.out⟩
   ·have HDE:Hid (delHo H F=postHo H (evF 3 0 0 F)):=by show _=_;rw[HD2.out,if_pos hfu,if_pos (HB0.out.2 rfl)]
    clear HD2 hfu;go_wp2_with (first | (refine wpList_load_mid (P:=Tryz.prog) rfl 39 (.tmp 2) rfl w.heap.size 0 rfl (hoL (H) (s)) _ HB.out.p.load Tryz.underlying39 rfl (sz41L _ _) ?_) | (refine wpList_load_mid (P:=Tryz.prog) rfl 55 (.tmp 3) rfl (w.heap.size+1) 0 rfl [.bool F.e,.int .u32 (F.i:Int),.bool F.r,.int .i64 F.d,.slice fa fm fc] _ HB.out.f.load Tryz.underlying55 rfl sz93 ?_))
    refine (l3post_g wc H s T2 w.heap.size g4 (evF 3 0 0 F) fa fm fc HE4.out.1 HQ.out (by have:=HBZ.out.o;omega) (by omega) hlo (HFA.out _ (HBW.out.mono HZ0.out.1)) hfm).mono ?_
    rintro o w8 ⟨g',n',k',rfl,hV,ho8,hg8,hb8⟩;have HR8:Hid (blk w8 (w.heap.size+1+1) Z10 39):=HB.out.r.kept (ho8 _ (by have:=HE4.out.2;omega) HB.out.r.lt)
    have HE8:Hid (∀ L:List Value,spS B T0 T1 T2 (postHo H (evF 3 0 0 F)) (qSl s g' n' k') (w8.setCells (w.heap.size+1+1) 0 L)):=fun L=>sp_endG HBZ.out HZ0.out.2.1 HE4.out.2.2 ⟨by omega,HB.out.r.lt⟩ hV ho8 hb8.size (fun q hq=>setCells_other _ q hq _ _ _) (setCells_size ..)
    have HB8:Hid (Below B w w8):=(HBW.out.mono HZ0.out.1).trans (hb8.mono HZ0.out.2.2)
    have HO8:Hid (∀ q,T2≤q→q<w.heap.size→q≠g4→w8.heap[q]?=w.heap[q]?):=fun q _ h2 h3=>(ho8 q h3 (by have:=HB.out.r.lt;omega)).trans (HBW.out.block q h2)
    clear hV ho8 hb8 hg8;go_wp2_with (first | (refine wpList_store_mid (P:=Tryz.prog) rfl 39 (.tmp 4) (.tmp 29) rfl (w.heap.size+1+1) 0 (hoL (postHo H (evF 3 0 0 F)) (qSl s g' n' k')).toArray rfl rfl (HR8.out.there 0 _ (by rw[List.size_toArray,hoL_len];decide)) (sz41A _ _) (hoL_one _ _) ?_;generalize hX9:World.setCells w8 (w.heap.size+1+1) 0 _=w9;have HX9:Hid (World.setCells w8 (w.heap.size+1+1) 0 (hoL (postHo H (evF 3 0 0 F)) (qSl s g' n' k'))=w9):=hX9;clear hX9))
    have e9:=HX9.out
    have hF:blk w9 (w.heap.size+1+1) (hoL (postHo H (evF 3 0 0 F)) (qSl s g' n' k')) 39:=by
     rw[← e9]
     have:=blk.put [] Z10 [] (hoL (postHo H (evF 3 0 0 F)) (qSl s g' n' k')) (w:=w8) (b:=w.heap.size+1+1) (T:=39) (by simpa using HR8.out) (by rw[hoL_len];rfl)
     rw[List.nil_append,List.append_nil] at this
     exact this
    have hL:=run_loadVar_mid (P:=Tryz.prog) w9 (w.heap.size+1+1) 0 39 _ _ hF.load Tryz.underlying39 rfl (sz41L _ _)
    refine bodyPost_ret (v:=.agg (hoL (postHo H (evF 3 0 0 F)) (qSl s g' n' k')).toArray) (results_cell Tryz.results110 _ w9 (w.heap.size+1+1) _ rfl hL) rfl ?_
    have oth9:∀ x,x≠w.heap.size+1+1→w9.heap[x]?=w8.heap[x]?:=fun x hx=>by rw[← e9];exact setCells_other _ x hx _ _ _
    have hz9:w9.heap.size=w8.heap.size:=by rw[← e9];exact setCells_size ..
    have hS9:spS B T0 T1 T2 (postHo H (evF 3 0 0 F)) (qSl s g' n' k') w9:=by rw[← e9];exact HE8.out _
    obtain⟨gx,hd'⟩:=dv_of hS9 HZ0.out.2.1
    rw[HDE.out]
    refine⟨_,gx,rfl,hd',HK.out _ (fun q h1 h2 h3=>(oth9 q (by omega)).trans (HO8.out q h1 h2 h3)),?_⟩
    rw[← e9]
    exact setCells_below (by have:=HZ0.out;omega) 0 _ HB8.out
 case rest=>
 obtain⟨H1,s1,off,hs,g1,HD0,HDE,HN⟩:=hcut
 clear HD2 HB HBW x6 x1 x2 HFU HB0 efu eb0 HSM HC1 HC2 HQ0 HS0 HE3 hlo hn1 hn3 hn4 HL3;have hn3:=HN.out.1
 go_upto_region 8 with fail
 go_cut [] (fun wx=>∃ s2,s2.n4=s1.n4∧Hid (dlT B T0 T1 T2 w (fHo H1 (H1.ff++[F])) s2 [.bool F.e,.int .u32 (F.i:Int),.bool F.r,.int .i64 F.d,.slice fa fm fc] g1 g4 wx))
 case first=>
  have HD:Hid (dlS B T0 T1 T2 w H1 s1 [.bool F.e,.int .u32 (F.i:Int),.bool F.r,.int .i64 F.d,.slice fa fm fc] gq off hs g1 g4 (World.drew wc)):=HD0.out.below (Below.refl _ _).drew
  clear HD0;refine wp_region_held (S:=fun X=>blk X (w.heap.size+1) [.bool F.e,.int .u32 (F.i:Int),.bool F.r,.int .i64 F.d,.slice fa fm fc] 55) (by kernel_rfl) ?_
  change wpAnyH Tryz.prog _ _ _ _ _ _ _ (World.drew wc)
  generalize World.drew wc=v0 at *;have hS:blk v0 (w.heap.size+1) [.bool F.e,.int .u32 (F.i:Int),.bool F.r,.int .i64 F.d,.slice fa fm fc] 55:=HD.out.f
  have HX6:Hid (∀ X,blk X w.heap.size (hoL H1 s1) 39→X.cell? ⟨w.heap.size,6,none⟩=some (.slice (some ⟨gq,off,none⟩) s1.n3 s1.k3)):=fun X hX=>by
   have:=hX.cell 6 _ (by unfold hoL;rfl)
   rw[HD.out.e3] at this
   exact this
  refine wV 0 (.pointer (some ⟨w.heap.size,6,none⟩)) rfl (by kernel_rfl) ?_ hS ?_ fun _ _ _ h=>h
  ·intro W hSw;clear hS;go_simp
  simp only[Act.put,aA,aB,aC,aD,aE]
  refine wU 2 (.agg [.bool F.e,.int .u32 (F.i:Int),.bool F.r,.int .i64 F.d,.slice fa fm fc].toArray) rfl (by kernel_rfl) (yieldsIf_load_mid (by rfl) 55 _ rfl (w.heap.size+1) 0 rfl [.bool F.e,.int .u32 (F.i:Int),.bool F.r,.int .i64 F.d,.slice fa fm fc] _ (fun X h=>h.load) Tryz.underlying55 rfl sz93) hS ?_ fun _ _ _ h=>h
  simp only[Act.put,aA,aB,aC,aD,aE,aF];refine wpAnyH_all (rs:=[1,3]) (by kernel_rfl) (by simp) ?_
  refine AllReadyH.cons rfl (fun K2 hK2=>?_) (AllReadyH.cons rfl (fun K2 hK2=>?_) AllReadyH.nil)
  ·have x6:=HX6.out _ HD.out.p
   go_simp;refine hK2.out _ _ hS (fun hS2=>?_)
   clear hK2 K2 hS2 x6;refine wpAnyH_all (rs:=[3]) (by kernel_rfl) (by simp) ?_
   refine AllReadyH.cons rfl (fun K2 hK2=>?_) AllReadyH.nil
   go_simp;refine (l1copyFrame_any _ F.e F.i F.r F.d fa fm fc F.l (HFA.out _ HD.out.bl) hfm).mono ?_
   rintro o v1 ⟨gd,kd,rfl,⟨q1,q2,q3,q4⟩,hb1⟩;have hS5:blk v1 (w.heap.size+1) [.bool F.e,.int .u32 (F.i:Int),.bool F.r,.int .i64 F.d,.slice fa fm fc] 55:=hS.below hb1
   have HD1:Hid (dlS B T0 T1 T2 w H1 s1 [.bool F.e,.int .u32 (F.i:Int),.bool F.r,.int .i64 F.d,.slice fa fm fc] gq off hs g1 g4 v1):=HD.out.below hb1
   have HG:Hid (isBytes v1 (some ⟨gd,0,none⟩) fm kd F.l∧w.heap.size+1+1<gd∧gd<v1.heap.size∧gd≠g1):=⟨q3.now,by have:=HD.out.r.lt;omega,q2,by have:=HD.out.qlo.2;omega⟩
   clear q1 q2 q3 q4 hb1;go_wp2_with fail;refine hK2.out _ _ hS5 (fun hS2=>?_)
   clear hK2 K2 hS5 hS HD;have hS:=hS2
   have HD:Hid (dlS B T0 T1 T2 w H1 s1 [.bool F.e,.int .u32 (F.i:Int),.bool F.r,.int .i64 F.d,.slice fa fm fc] gq off hs g1 g4 v1):=HD1.out
   clear hS2 HD1;refine wpAnyH_all (rs:=[4]) (by kernel_rfl) (by simp) ?_
   refine AllReadyH.cons rfl (fun K2 hK2=>?_) AllReadyH.nil
   go_simp;have bA:Below v1.heap.size v1 (v1.alloc (.cells [.bool F.e,.int .u32 (F.i:Int),.bool F.r,.int .i64 F.d,.slice (some ⟨gd,0,none⟩) fm kd].toArray 55)):=(Below.refl _ _).alloc (Nat.le_refl _) _
   have hSA:blk (v1.alloc (.cells [.bool F.e,.int .u32 (F.i:Int),.bool F.r,.int .i64 F.d,.slice (some ⟨gd,0,none⟩) fm kd].toArray 55)) (w.heap.size+1) [.bool F.e,.int .u32 (F.i:Int),.bool F.r,.int .i64 F.d,.slice fa fm fc] 55:=hS.below bA
   have HNB:Hid ((v1.alloc (.cells [.bool F.e,.int .u32 (F.i:Int),.bool F.r,.int .i64 F.d,.slice (some ⟨gd,0,none⟩) fm kd].toArray 55)).heap[v1.heap.size]?=some (.cells [.bool F.e,.int .u32 (F.i:Int),.bool F.r,.int .i64 F.d,.slice (some ⟨gd,0,none⟩) fm kd].toArray 55)):=heap_alloc_new v1 _
   have HD1:Hid (dlS B T0 T1 T2 w H1 s1 [.bool F.e,.int .u32 (F.i:Int),.bool F.r,.int .i64 F.d,.slice fa fm fc] gq off hs g1 g4 (v1.alloc (.cells [.bool F.e,.int .u32 (F.i:Int),.bool F.r,.int .i64 F.d,.slice (some ⟨gd,0,none⟩) fm kd].toArray 55))):=HD.out.below bA
   have HG1:Hid (isBytes (v1.alloc (.cells [.bool F.e,.int .u32 (F.i:Int),.bool F.r,.int .i64 F.d,.slice (some ⟨gd,0,none⟩) fm kd].toArray 55)) (some ⟨gd,0,none⟩) fm kd F.l∧w.heap.size+1+1<gd∧gd<(v1.alloc (.cells [.bool F.e,.int .u32 (F.i:Int),.bool F.r,.int .i64 F.d,.slice (some ⟨gd,0,none⟩) fm kd].toArray 55)).heap.size∧gd≠g1):=⟨HG.out.1.below bA,HG.out.2.1,by have:=HG.out.2.2.1;have:=bA.size;omega,HG.out.2.2.2⟩
   refine hK2.out _ _ hSA (fun hS2=>?_)
   clear hK2 K2 hSA hS bA HD HG;generalize (v1.alloc (.cells [.bool F.e,.int .u32 (F.i:Int),.bool F.r,.int .i64 F.d,.slice (some ⟨gd,0,none⟩) fm kd].toArray 55))=v2 at *;generalize v1.heap.size=ib at *;have hS:=hS2
   have HD:Hid (dlS B T0 T1 T2 w H1 s1 [.bool F.e,.int .u32 (F.i:Int),.bool F.r,.int .i64 F.d,.slice fa fm fc] gq off hs g1 g4 v2):=HD1.out
   have HG:Hid (isBytes v2 (some ⟨gd,0,none⟩) fm kd F.l∧w.heap.size+1+1<gd∧gd<v2.heap.size∧gd≠g1):=HG1.out
   clear hS2 HD1 HG1;refine wpAnyH_all (rs:=[5]) (by kernel_rfl) (by simp) ?_
   refine AllReadyH.cons rfl (fun K2 hK2=>?_) AllReadyH.nil
   rw[if_pos (by rfl)]
   have HO:Hid (w.heap.size≠gq∧w.heap.size+1≠gq):=by
    have h1:=HD.out.ff.hi
    have h2:=HD.out.o
    exact⟨by omega,by omega⟩
   refine wp_append5 (.tmp 41) (.tmp 44) rfl gq off s1.n3 s1.k3 (ffC H1.ff hs) rfl (by rw[ffC_len,HD.out.ff.len]) HD.out.ff.olds ib [.bool F.e,.int .u32 (F.i:Int),.bool F.r,.int .i64 F.d,.slice (some ⟨gd,0,none⟩) fm kd] rfl rfl HNB.out (by simp[Value.oneCell']) (by omega) (fun hr j hj=>?_) (fun hr=>?_) (fun hr v' w' hown hg=>?_)
   ·have:=HD.out.ff.sp (s1.n3*5+j) (by simp at hj;omega)
    rw[← Nat.add_assoc] at this
    exact this
   ·have hT:=HD.out.room F gd fm kd HG.out.1 HG.out.2 hr
    have HT:Hid (dlT B T0 T1 T2 w (fHo H1 (H1.ff++[F])) (fSl s1 gq off (s1.n3+1) s1.k3) [.bool F.e,.int .u32 (F.i:Int),.bool F.r,.int .i64 F.d,.slice fa fm fc] g1 g4 ((v2.setCells gq (off+s1.n3*5) [.bool F.e,.int .u32 (F.i:Int),.bool F.r,.int .i64 F.d,.slice (some ⟨gd,0,none⟩) fm kd]).setCell ⟨w.heap.size,6,none⟩ (.slice (some ⟨gq,off,none⟩) (s1.n3+1) s1.k3))):=hT
    have hS5:blk (v2.setCells gq (off+s1.n3*5) [.bool F.e,.int .u32 (F.i:Int),.bool F.r,.int .i64 F.d,.slice (some ⟨gd,0,none⟩) fm kd]) (w.heap.size+1) [.bool F.e,.int .u32 (F.i:Int),.bool F.r,.int .i64 F.d,.slice fa fm fc] 55:=hS.other HO.out.2 _ _
    have HP:Hid (blk (v2.setCells gq (off+s1.n3*5) [.bool F.e,.int .u32 (F.i:Int),.bool F.r,.int .i64 F.d,.slice (some ⟨gd,0,none⟩) fm kd]) w.heap.size (hoL H1 s1) 39):=HD.out.p.other HO.out.1 _ _
    clear hT;refine hK2.out _ _ hS5 (fun hS2=>?_)
    clear hK2 K2 hS5 hS HD HG HNB;have hS:=hS2
    clear hS2;generalize v2.setCells gq (off+s1.n3*5) [.bool F.e,.int .u32 (F.i:Int),.bool F.r,.int .i64 F.d,.slice (some ⟨gd,0,none⟩) fm kd]=vz at *;simp only[Act.put,aA,aB,aC,aD,aE,aF];refine wV 6 (.pointer (some ⟨w.heap.size,6,none⟩)) rfl (by kernel_rfl) ?_ hS ?_ fun _ _ _ h=>h
    ·intro W hSw;clear hS;go_simp
    simp only[Act.put,aA,aB,aC,aD,aE,aF];refine wpAnyH_all (rs:=[7]) (by kernel_rfl) (by simp) ?_
    refine AllReadyH.cons rfl (fun K2 hK2=>?_) AllReadyH.nil
    have x6:=HX6.out _ HP.out
    have z6:=HP.out.free 6
    go_simp;refine hK2.out _ _ (hS.setOther (by omega) _ _) (fun hS2=>?_)
    clear hK2 K2 hS2;refine wpAnyH_done (by kernel_rfl) ?_ _
    go_wp2_with fail;go_meet
    case rel=>exact⟨fSl s1 gq off (s1.n3+1) s1.k3,rfl,HT.out⟩
   ·obtain⟨g',k',rfl,hT⟩:=HD.out.grow F gd fm kd HG.out.1 HG.out.2 v' w' hown hg
    have HT:Hid (dlT B T0 T1 T2 w (fHo H1 (H1.ff++[F])) (fSl s1 g' 0 (s1.n3+1) k') [.bool F.e,.int .u32 (F.i:Int),.bool F.r,.int .i64 F.d,.slice fa fm fc] g1 g4 (w'.setCell ⟨w.heap.size,6,none⟩ (.slice (some ⟨g',0,none⟩) (s1.n3+1) k'))):=hT
    have hS5:blk w' (w.heap.size+1) [.bool F.e,.int .u32 (F.i:Int),.bool F.r,.int .i64 F.d,.slice fa fm fc] 55:=hS.kept (hg.block _ hS.lt (by simp))
    have HP:Hid (blk w' w.heap.size (hoL H1 s1) 39):=HD.out.p.kept (hg.block _ HD.out.p.lt (by simp))
    clear hT;refine hK2.out _ _ hS5 (fun hS2=>?_)
    clear hK2 K2 hS5 hS hown hg HD HG HNB;have hS:=hS2
    clear hS2;simp only[Act.put,aA,aB,aC,aD,aE,aF];refine wV 6 (.pointer (some ⟨w.heap.size,6,none⟩)) rfl (by kernel_rfl) ?_ hS ?_ fun _ _ _ h=>h
    ·intro W hSw;clear hS;go_simp
    simp only[Act.put,aA,aB,aC,aD,aE,aF];refine wpAnyH_all (rs:=[7]) (by kernel_rfl) (by simp) ?_
    refine AllReadyH.cons rfl (fun K2 hK2=>?_) AllReadyH.nil
    have x6:=HX6.out _ HP.out
    have z6:=HP.out.free 6
    go_simp;refine hK2.out _ _ (hS.setOther (by omega) _ _) (fun hS2=>?_)
    clear hK2 K2 hS2;refine wpAnyH_done (by kernel_rfl) ?_ _
    go_wp2_with fail;go_meet
    case rel=>exact⟨fSl s1 g' 0 (s1.n3+1) k',rfl,HT.out⟩
  ·go_simp;refine (l1copyFrame_any _ F.e F.i F.r F.d fa fm fc F.l (HFA.out _ HD.out.bl) hfm).mono ?_
   rintro o v1 ⟨gd,kd,rfl,⟨q1,q2,q3,q4⟩,hb1⟩;have hS5:blk v1 (w.heap.size+1) [.bool F.e,.int .u32 (F.i:Int),.bool F.r,.int .i64 F.d,.slice fa fm fc] 55:=hS.below hb1
   have HD1:Hid (dlS B T0 T1 T2 w H1 s1 [.bool F.e,.int .u32 (F.i:Int),.bool F.r,.int .i64 F.d,.slice fa fm fc] gq off hs g1 g4 v1):=HD.out.below hb1
   have HG:Hid (isBytes v1 (some ⟨gd,0,none⟩) fm kd F.l∧w.heap.size+1+1<gd∧gd<v1.heap.size∧gd≠g1):=⟨q3.now,by have:=HD.out.r.lt;omega,q2,by have:=HD.out.qlo.2;omega⟩
   clear q1 q2 q3 q4 hb1;go_wp2_with fail;refine hK2.out _ _ hS5 (fun hS2=>?_)
   clear hK2 K2 hS5 hS HD;have hS:=hS2
   have HD:Hid (dlS B T0 T1 T2 w H1 s1 [.bool F.e,.int .u32 (F.i:Int),.bool F.r,.int .i64 F.d,.slice fa fm fc] gq off hs g1 g4 v1):=HD1.out
   clear hS2 HD1;refine wpAnyH_all (rs:=[1,4]) (by kernel_rfl) (by simp) ?_
   refine AllReadyH.cons rfl (fun K2 hK2=>?_) (AllReadyH.cons rfl (fun K2 hK2=>?_) AllReadyH.nil)
   ·have x6:=HX6.out _ HD.out.p
    go_simp;refine hK2.out _ _ hS (fun hS2=>?_)
    clear hK2 K2 hS2 x6;refine wpAnyH_all (rs:=[4]) (by kernel_rfl) (by simp) ?_
    refine AllReadyH.cons rfl (fun K2 hK2=>?_) AllReadyH.nil
    go_simp;have bA:Below v1.heap.size v1 (v1.alloc (.cells [.bool F.e,.int .u32 (F.i:Int),.bool F.r,.int .i64 F.d,.slice (some ⟨gd,0,none⟩) fm kd].toArray 55)):=(Below.refl _ _).alloc (Nat.le_refl _) _
    have hSA:blk (v1.alloc (.cells [.bool F.e,.int .u32 (F.i:Int),.bool F.r,.int .i64 F.d,.slice (some ⟨gd,0,none⟩) fm kd].toArray 55)) (w.heap.size+1) [.bool F.e,.int .u32 (F.i:Int),.bool F.r,.int .i64 F.d,.slice fa fm fc] 55:=hS.below bA
    have HNB:Hid ((v1.alloc (.cells [.bool F.e,.int .u32 (F.i:Int),.bool F.r,.int .i64 F.d,.slice (some ⟨gd,0,none⟩) fm kd].toArray 55)).heap[v1.heap.size]?=some (.cells [.bool F.e,.int .u32 (F.i:Int),.bool F.r,.int .i64 F.d,.slice (some ⟨gd,0,none⟩) fm kd].toArray 55)):=heap_alloc_new v1 _
    have HD1:Hid (dlS B T0 T1 T2 w H1 s1 [.bool F.e,.int .u32 (F.i:Int),.bool F.r,.int .i64 F.d,.slice fa fm fc] gq off hs g1 g4 (v1.alloc (.cells [.bool F.e,.int .u32 (F.i:Int),.bool F.r,.int .i64 F.d,.slice (some ⟨gd,0,none⟩) fm kd].toArray 55))):=HD.out.below bA
    have HG1:Hid (isBytes (v1.alloc (.cells [.bool F.e,.int .u32 (F.i:Int),.bool F.r,.int .i64 F.d,.slice (some ⟨gd,0,none⟩) fm kd].toArray 55)) (some ⟨gd,0,none⟩) fm kd F.l∧w.heap.size+1+1<gd∧gd<(v1.alloc (.cells [.bool F.e,.int .u32 (F.i:Int),.bool F.r,.int .i64 F.d,.slice (some ⟨gd,0,none⟩) fm kd].toArray 55)).heap.size∧gd≠g1):=⟨HG.out.1.below bA,HG.out.2.1,by have:=HG.out.2.2.1;have:=bA.size;omega,HG.out.2.2.2⟩
    refine hK2.out _ _ hSA (fun hS2=>?_)
    clear hK2 K2 hSA hS bA HD HG;generalize (v1.alloc (.cells [.bool F.e,.int .u32 (F.i:Int),.bool F.r,.int .i64 F.d,.slice (some ⟨gd,0,none⟩) fm kd].toArray 55))=v2 at *;generalize v1.heap.size=ib at *;have hS:=hS2
    have HD:Hid (dlS B T0 T1 T2 w H1 s1 [.bool F.e,.int .u32 (F.i:Int),.bool F.r,.int .i64 F.d,.slice fa fm fc] gq off hs g1 g4 v2):=HD1.out
    have HG:Hid (isBytes v2 (some ⟨gd,0,none⟩) fm kd F.l∧w.heap.size+1+1<gd∧gd<v2.heap.size∧gd≠g1):=HG1.out
    clear hS2 HD1 HG1;refine wpAnyH_all (rs:=[5]) (by kernel_rfl) (by simp) ?_
    refine AllReadyH.cons rfl (fun K2 hK2=>?_) AllReadyH.nil
    rw[if_pos (by rfl)]
    have HO:Hid (w.heap.size≠gq∧w.heap.size+1≠gq):=by
     have h1:=HD.out.ff.hi
     have h2:=HD.out.o
     exact⟨by omega,by omega⟩
    refine wp_append5 (.tmp 41) (.tmp 44) rfl gq off s1.n3 s1.k3 (ffC H1.ff hs) rfl (by rw[ffC_len,HD.out.ff.len]) HD.out.ff.olds ib [.bool F.e,.int .u32 (F.i:Int),.bool F.r,.int .i64 F.d,.slice (some ⟨gd,0,none⟩) fm kd] rfl rfl HNB.out (by simp[Value.oneCell']) (by omega) (fun hr j hj=>?_) (fun hr=>?_) (fun hr v' w' hown hg=>?_)
    ·have:=HD.out.ff.sp (s1.n3*5+j) (by simp at hj;omega)
     rw[← Nat.add_assoc] at this
     exact this
    ·have hT:=HD.out.room F gd fm kd HG.out.1 HG.out.2 hr
     have HT:Hid (dlT B T0 T1 T2 w (fHo H1 (H1.ff++[F])) (fSl s1 gq off (s1.n3+1) s1.k3) [.bool F.e,.int .u32 (F.i:Int),.bool F.r,.int .i64 F.d,.slice fa fm fc] g1 g4 ((v2.setCells gq (off+s1.n3*5) [.bool F.e,.int .u32 (F.i:Int),.bool F.r,.int .i64 F.d,.slice (some ⟨gd,0,none⟩) fm kd]).setCell ⟨w.heap.size,6,none⟩ (.slice (some ⟨gq,off,none⟩) (s1.n3+1) s1.k3))):=hT
     have hS5:blk (v2.setCells gq (off+s1.n3*5) [.bool F.e,.int .u32 (F.i:Int),.bool F.r,.int .i64 F.d,.slice (some ⟨gd,0,none⟩) fm kd]) (w.heap.size+1) [.bool F.e,.int .u32 (F.i:Int),.bool F.r,.int .i64 F.d,.slice fa fm fc] 55:=hS.other HO.out.2 _ _
     have HP:Hid (blk (v2.setCells gq (off+s1.n3*5) [.bool F.e,.int .u32 (F.i:Int),.bool F.r,.int .i64 F.d,.slice (some ⟨gd,0,none⟩) fm kd]) w.heap.size (hoL H1 s1) 39):=HD.out.p.other HO.out.1 _ _
     clear hT;refine hK2.out _ _ hS5 (fun hS2=>?_)
     clear hK2 K2 hS5 hS HD HG HNB;have hS:=hS2
     clear hS2;generalize v2.setCells gq (off+s1.n3*5) [.bool F.e,.int .u32 (F.i:Int),.bool F.r,.int .i64 F.d,.slice (some ⟨gd,0,none⟩) fm kd]=vz at *;simp only[Act.put,aA,aB,aC,aD,aE,aF];refine wV 6 (.pointer (some ⟨w.heap.size,6,none⟩)) rfl (by kernel_rfl) ?_ hS ?_ fun _ _ _ h=>h
     ·intro W hSw;clear hS;go_simp
     simp only[Act.put,aA,aB,aC,aD,aE,aF];refine wpAnyH_all (rs:=[7]) (by kernel_rfl) (by simp) ?_
     refine AllReadyH.cons rfl (fun K2 hK2=>?_) AllReadyH.nil
     have x6:=HX6.out _ HP.out
     have z6:=HP.out.free 6
     go_simp;refine hK2.out _ _ (hS.setOther (by omega) _ _) (fun hS2=>?_)
     clear hK2 K2 hS2;refine wpAnyH_done (by kernel_rfl) ?_ _
     go_wp2_with fail;go_meet
     case rel=>exact⟨fSl s1 gq off (s1.n3+1) s1.k3,rfl,HT.out⟩
    ·obtain⟨g',k',rfl,hT⟩:=HD.out.grow F gd fm kd HG.out.1 HG.out.2 v' w' hown hg
     have HT:Hid (dlT B T0 T1 T2 w (fHo H1 (H1.ff++[F])) (fSl s1 g' 0 (s1.n3+1) k') [.bool F.e,.int .u32 (F.i:Int),.bool F.r,.int .i64 F.d,.slice fa fm fc] g1 g4 (w'.setCell ⟨w.heap.size,6,none⟩ (.slice (some ⟨g',0,none⟩) (s1.n3+1) k'))):=hT
     have hS5:blk w' (w.heap.size+1) [.bool F.e,.int .u32 (F.i:Int),.bool F.r,.int .i64 F.d,.slice fa fm fc] 55:=hS.kept (hg.block _ hS.lt (by simp))
     have HP:Hid (blk w' w.heap.size (hoL H1 s1) 39):=HD.out.p.kept (hg.block _ HD.out.p.lt (by simp))
     clear hT;refine hK2.out _ _ hS5 (fun hS2=>?_)
     clear hK2 K2 hS5 hS hown hg HD HG HNB;have hS:=hS2
     clear hS2;simp only[Act.put,aA,aB,aC,aD,aE,aF];refine wV 6 (.pointer (some ⟨w.heap.size,6,none⟩)) rfl (by kernel_rfl) ?_ hS ?_ fun _ _ _ h=>h
     ·intro W hSw;clear hS;go_simp
     simp only[Act.put,aA,aB,aC,aD,aE,aF];refine wpAnyH_all (rs:=[7]) (by kernel_rfl) (by simp) ?_
     refine AllReadyH.cons rfl (fun K2 hK2=>?_) AllReadyH.nil
     have x6:=HX6.out _ HP.out
     have z6:=HP.out.free 6
     go_simp;refine hK2.out _ _ (hS.setOther (by omega) _ _) (fun hS2=>?_)
     clear hK2 K2 hS2;refine wpAnyH_done (by kernel_rfl) ?_ _
     go_wp2_with fail;go_meet
     case rel=>exact⟨fSl s1 g' 0 (s1.n3+1) k',rfl,HT.out⟩
   ·go_simp;have bA:Below v1.heap.size v1 (v1.alloc (.cells [.bool F.e,.int .u32 (F.i:Int),.bool F.r,.int .i64 F.d,.slice (some ⟨gd,0,none⟩) fm kd].toArray 55)):=(Below.refl _ _).alloc (Nat.le_refl _) _
    have hSA:blk (v1.alloc (.cells [.bool F.e,.int .u32 (F.i:Int),.bool F.r,.int .i64 F.d,.slice (some ⟨gd,0,none⟩) fm kd].toArray 55)) (w.heap.size+1) [.bool F.e,.int .u32 (F.i:Int),.bool F.r,.int .i64 F.d,.slice fa fm fc] 55:=hS.below bA
    have HNB:Hid ((v1.alloc (.cells [.bool F.e,.int .u32 (F.i:Int),.bool F.r,.int .i64 F.d,.slice (some ⟨gd,0,none⟩) fm kd].toArray 55)).heap[v1.heap.size]?=some (.cells [.bool F.e,.int .u32 (F.i:Int),.bool F.r,.int .i64 F.d,.slice (some ⟨gd,0,none⟩) fm kd].toArray 55)):=heap_alloc_new v1 _
    have HD1:Hid (dlS B T0 T1 T2 w H1 s1 [.bool F.e,.int .u32 (F.i:Int),.bool F.r,.int .i64 F.d,.slice fa fm fc] gq off hs g1 g4 (v1.alloc (.cells [.bool F.e,.int .u32 (F.i:Int),.bool F.r,.int .i64 F.d,.slice (some ⟨gd,0,none⟩) fm kd].toArray 55))):=HD.out.below bA
    have HG1:Hid (isBytes (v1.alloc (.cells [.bool F.e,.int .u32 (F.i:Int),.bool F.r,.int .i64 F.d,.slice (some ⟨gd,0,none⟩) fm kd].toArray 55)) (some ⟨gd,0,none⟩) fm kd F.l∧w.heap.size+1+1<gd∧gd<(v1.alloc (.cells [.bool F.e,.int .u32 (F.i:Int),.bool F.r,.int .i64 F.d,.slice (some ⟨gd,0,none⟩) fm kd].toArray 55)).heap.size∧gd≠g1):=⟨HG.out.1.below bA,HG.out.2.1,by have:=HG.out.2.2.1;have:=bA.size;omega,HG.out.2.2.2⟩
    refine hK2.out _ _ hSA (fun hS2=>?_)
    clear hK2 K2 hSA hS bA HD HG;generalize (v1.alloc (.cells [.bool F.e,.int .u32 (F.i:Int),.bool F.r,.int .i64 F.d,.slice (some ⟨gd,0,none⟩) fm kd].toArray 55))=v2 at *;generalize v1.heap.size=ib at *;have hS:=hS2
    have HD:Hid (dlS B T0 T1 T2 w H1 s1 [.bool F.e,.int .u32 (F.i:Int),.bool F.r,.int .i64 F.d,.slice fa fm fc] gq off hs g1 g4 v2):=HD1.out
    have HG:Hid (isBytes v2 (some ⟨gd,0,none⟩) fm kd F.l∧w.heap.size+1+1<gd∧gd<v2.heap.size∧gd≠g1):=HG1.out
    clear hS2 HD1 HG1;refine wpAnyH_all (rs:=[1]) (by kernel_rfl) (by simp) ?_
    refine AllReadyH.cons rfl (fun K2 hK2=>?_) AllReadyH.nil
    have x6:=HX6.out _ HD.out.p
    go_simp;refine hK2.out _ _ hS (fun hS2=>?_)
    clear hK2 K2 hS2 x6;refine wpAnyH_all (rs:=[5]) (by kernel_rfl) (by simp) ?_
    refine AllReadyH.cons rfl (fun K2 hK2=>?_) AllReadyH.nil
    rw[if_pos (by rfl)]
    have HO:Hid (w.heap.size≠gq∧w.heap.size+1≠gq):=by
     have h1:=HD.out.ff.hi
     have h2:=HD.out.o
     exact⟨by omega,by omega⟩
    refine wp_append5 (.tmp 41) (.tmp 44) rfl gq off s1.n3 s1.k3 (ffC H1.ff hs) rfl (by rw[ffC_len,HD.out.ff.len]) HD.out.ff.olds ib [.bool F.e,.int .u32 (F.i:Int),.bool F.r,.int .i64 F.d,.slice (some ⟨gd,0,none⟩) fm kd] rfl rfl HNB.out (by simp[Value.oneCell']) (by omega) (fun hr j hj=>?_) (fun hr=>?_) (fun hr v' w' hown hg=>?_)
    ·have:=HD.out.ff.sp (s1.n3*5+j) (by simp at hj;omega)
     rw[← Nat.add_assoc] at this
     exact this
    ·have hT:=HD.out.room F gd fm kd HG.out.1 HG.out.2 hr
     have HT:Hid (dlT B T0 T1 T2 w (fHo H1 (H1.ff++[F])) (fSl s1 gq off (s1.n3+1) s1.k3) [.bool F.e,.int .u32 (F.i:Int),.bool F.r,.int .i64 F.d,.slice fa fm fc] g1 g4 ((v2.setCells gq (off+s1.n3*5) [.bool F.e,.int .u32 (F.i:Int),.bool F.r,.int .i64 F.d,.slice (some ⟨gd,0,none⟩) fm kd]).setCell ⟨w.heap.size,6,none⟩ (.slice (some ⟨gq,off,none⟩) (s1.n3+1) s1.k3))):=hT
     have hS5:blk (v2.setCells gq (off+s1.n3*5) [.bool F.e,.int .u32 (F.i:Int),.bool F.r,.int .i64 F.d,.slice (some ⟨gd,0,none⟩) fm kd]) (w.heap.size+1) [.bool F.e,.int .u32 (F.i:Int),.bool F.r,.int .i64 F.d,.slice fa fm fc] 55:=hS.other HO.out.2 _ _
     have HP:Hid (blk (v2.setCells gq (off+s1.n3*5) [.bool F.e,.int .u32 (F.i:Int),.bool F.r,.int .i64 F.d,.slice (some ⟨gd,0,none⟩) fm kd]) w.heap.size (hoL H1 s1) 39):=HD.out.p.other HO.out.1 _ _
     clear hT;refine hK2.out _ _ hS5 (fun hS2=>?_)
     clear hK2 K2 hS5 hS HD HG HNB;have hS:=hS2
     clear hS2;generalize v2.setCells gq (off+s1.n3*5) [.bool F.e,.int .u32 (F.i:Int),.bool F.r,.int .i64 F.d,.slice (some ⟨gd,0,none⟩) fm kd]=vz at *;simp only[Act.put,aA,aB,aC,aD,aE,aF];refine wV 6 (.pointer (some ⟨w.heap.size,6,none⟩)) rfl (by kernel_rfl) ?_ hS ?_ fun _ _ _ h=>h
     ·intro W hSw;clear hS;go_simp
     simp only[Act.put,aA,aB,aC,aD,aE,aF];refine wpAnyH_all (rs:=[7]) (by kernel_rfl) (by simp) ?_
     refine AllReadyH.cons rfl (fun K2 hK2=>?_) AllReadyH.nil
     have x6:=HX6.out _ HP.out
     have z6:=HP.out.free 6
     go_simp;refine hK2.out _ _ (hS.setOther (by omega) _ _) (fun hS2=>?_)
     clear hK2 K2 hS2;refine wpAnyH_done (by kernel_rfl) ?_ _
     go_wp2_with fail;go_meet
     case rel=>exact⟨fSl s1 gq off (s1.n3+1) s1.k3,rfl,HT.out⟩
    ·obtain⟨g',k',rfl,hT⟩:=HD.out.grow F gd fm kd HG.out.1 HG.out.2 v' w' hown hg
     have HT:Hid (dlT B T0 T1 T2 w (fHo H1 (H1.ff++[F])) (fSl s1 g' 0 (s1.n3+1) k') [.bool F.e,.int .u32 (F.i:Int),.bool F.r,.int .i64 F.d,.slice fa fm fc] g1 g4 (w'.setCell ⟨w.heap.size,6,none⟩ (.slice (some ⟨g',0,none⟩) (s1.n3+1) k'))):=hT
     have hS5:blk w' (w.heap.size+1) [.bool F.e,.int .u32 (F.i:Int),.bool F.r,.int .i64 F.d,.slice fa fm fc] 55:=hS.kept (hg.block _ hS.lt (by simp))
     have HP:Hid (blk w' w.heap.size (hoL H1 s1) 39):=HD.out.p.kept (hg.block _ HD.out.p.lt (by simp))
     clear hT;refine hK2.out _ _ hS5 (fun hS2=>?_)
     clear hK2 K2 hS5 hS hown hg HD HG HNB;have hS:=hS2
     clear hS2;simp only[Act.put,aA,aB,aC,aD,aE,aF];refine wV 6 (.pointer (some ⟨w.heap.size,6,none⟩)) rfl (by kernel_rfl) ?_ hS ?_ fun _ _ _ h=>h
     ·intro W hSw;clear hS;go_simp
     simp only[Act.put,aA,aB,aC,aD,aE,aF];refine wpAnyH_all (rs:=[7]) (by kernel_rfl) (by simp) ?_
     refine AllReadyH.cons rfl (fun K2 hK2=>?_) AllReadyH.nil
     have x6:=HX6.out _ HP.out
     have z6:=HP.out.free 6
     go_simp;refine hK2.out _ _ (hS.setOther (by omega) _ _) (fun hS2=>?_)
     clear hK2 K2 hS2;refine wpAnyH_done (by kernel_rfl) ?_ _
     go_wp2_with fail;go_meet
     case rel=>exact⟨fSl s1 g' 0 (s1.n3+1) k',rfl,HT.out⟩
 case rest=>
 obtain⟨s2,es2,HT⟩:=hcut
 clear HD0;go_wp2_with (first | (refine wpList_load_mid (P:=Tryz.prog) rfl 39 (.tmp 2) rfl w.heap.size 0 rfl (hoL (fHo H1 (H1.ff++[F])) (s2)) _ HT.out.p.load Tryz.underlying39 rfl (sz41L _ _) ?_) | (refine wpList_load_mid (P:=Tryz.prog) rfl 55 (.tmp 3) rfl (w.heap.size+1) 0 rfl [.bool F.e,.int .u32 (F.i:Int),.bool F.r,.int .i64 F.d,.slice fa fm fc] _ HT.out.f.load Tryz.underlying55 rfl sz93 ?_))
 refine (l3post_g wc (fHo H1 (H1.ff++[F])) s2 T2 wc.heap.size g1 (evF 2 0 0 F) fa fm fc HT.out.e4 HT.out.q (by have h1:=HT.out.o;have h2:=HT.out.p.lt;omega) (by rw[es2];exact HN.out.2.1) HN.out.2.2 (HFA.out _ HT.out.bl) hfm).mono ?_
 rintro o w8 ⟨g8,n8,k8,rfl,hV,ho8,hg8,hb8⟩;have HR8:Hid (blk w8 (w.heap.size+1+1) Z10 39):=HT.out.r.kept (ho8 _ (HT.out.q.ne HT.out.r (by decide)).symm HT.out.r.lt)
 have HE8:Hid (∀ V:World,(∀ x,x≠w.heap.size+1+1→V.heap[x]?=w8.heap[x]?)→V.heap.size=w8.heap.size→dv w T2 (postHo (fHo H1 (H1.ff++[F])) (evF 2 0 0 F)) (qSl s2 g8 n8 k8) g8 V∧∀ q,T2≤q→q<w.heap.size→q≠g4→V.heap[q]?=w.heap[q]?):=fun V h1 h2=>HT.out.fin (hV w8 (fun _ _ _ _=>rfl) (Nat.le_refl _)) ho8 hg8 hb8.size h1 h2 HR8.out
 have HB8:Hid (Below B w w8):=HT.out.bl.trans (hb8.mono HZ0.out.2.2)
 clear hV ho8 hb8 hg8;go_wp2_with (first | (refine wpList_store_mid (P:=Tryz.prog) rfl 39 (.tmp 4) (.tmp 49) rfl (w.heap.size+1+1) 0 (hoL (postHo (fHo H1 (H1.ff++[F])) (evF 2 0 0 F)) (qSl s2 g8 n8 k8)).toArray rfl rfl (HR8.out.there 0 _ (by rw[List.size_toArray,hoL_len];decide)) (sz41A _ _) (hoL_one _ _) ?_;generalize hX9:World.setCells w8 (w.heap.size+1+1) 0 _=w9;have HX9:Hid (World.setCells w8 (w.heap.size+1+1) 0 (hoL (postHo (fHo H1 (H1.ff++[F])) (evF 2 0 0 F)) (qSl s2 g8 n8 k8))=w9):=hX9;clear hX9))
 have e9:=HX9.out
 have hF:blk w9 (w.heap.size+1+1) (hoL (postHo (fHo H1 (H1.ff++[F])) (evF 2 0 0 F)) (qSl s2 g8 n8 k8)) 39:=by
  rw[← e9]
  have:=blk.put [] Z10 [] (hoL (postHo (fHo H1 (H1.ff++[F])) (evF 2 0 0 F)) (qSl s2 g8 n8 k8)) (w:=w8) (b:=w.heap.size+1+1) (T:=39) (by simpa using HR8.out) (by rw[hoL_len];rfl)
  rw[List.nil_append,List.append_nil] at this
  exact this
 have hL:=run_loadVar_mid (P:=Tryz.prog) w9 (w.heap.size+1+1) 0 39 _ _ hF.load Tryz.underlying39 rfl (sz41L _ _)
 refine bodyPost_ret (v:=.agg (hoL (postHo (fHo H1 (H1.ff++[F])) (evF 2 0 0 F)) (qSl s2 g8 n8 k8)).toArray) (results_cell Tryz.results110 _ w9 (w.heap.size+1+1) _ rfl hL) rfl ?_
 have oth9:∀ x,x≠w.heap.size+1+1→w9.heap[x]?=w8.heap[x]?:=fun x hx=>by rw[← e9];exact setCells_other _ x hx _ _ _
 have hz9:w9.heap.size=w8.heap.size:=by rw[← e9];exact setCells_size ..
 obtain⟨h1,h2⟩:=HE8.out w9 oth9 hz9
 rw[HDE.out]
 refine⟨_,g8,rfl,h1,HK.out _ h2,?_⟩
 rw[← e9]
 exact setCells_below (by have:=HZ0.out;omega) 0 _ HB8.out
end Go.Proofs.YtkfcfigbgmbaiaaGreat
