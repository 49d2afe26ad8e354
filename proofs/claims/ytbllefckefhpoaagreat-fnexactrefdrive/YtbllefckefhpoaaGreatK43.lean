import Derived.Test.YtbllefckefhpoaaGreatK42
import Derived.Test.YtbllefckefhpoaaGreatK29
import Derived.Test.YtbllefckefhpoaaGreatK14
import Derived.Test.YtbllefckefhpoaaGreatK10
import Derived.Test.YtbllefckefhpoaaGreatK11
import Derived.Test.YtbllefckefhpoaaGreatK34
namespace Go.Proofs.YtbllefckefhpoaaGreat
open Go.RowKit
set_option linter.unusedVariables false
set_option maxHeartbeats 16000000
open Go.Value renaming int→I,slice→sL,bool→bO,pointer→pT,agg→aG
open Go.IntKind renaming i64→J
open Go.Ending renaming returned→rT
open Go.Proofs.Tryz renaming prog→Tp
theorem hidYY {P:Prop} (h:P):Hid P:=h
set_option maxRecDepth 20000 in
theorem l5frame_any (w:World) (C:Co) (s:Sl) (k:Nat) (hk:k<C.ho.bx.length) (h:isHo w C.ho s) (hn:s.n2≤8) (hz:∀ z,bsy C.ho.bx z→z=(k:Int)) :
  Calls Tp 27 #[aG (coL C s).toArray] w fun o w'=>∃ ao m c,o = rT (frV C.ho.bx[k].e C.ho.bx[k].i C.ho.bx[k].r C.ho.bx[k].d ao m c)∧isBytes w' ao m c C.ho.bx[k].l∧Below w.heap.size w w':=by
 have hln:=h.bx.len
 have hcp:=h.bx.cap
 obtain⟨gb,off,ea,hc⟩:=h.bx.cells (by intro e;rw[e] at hk;cases hk)
 obtain⟨ao,m,c,q⟩:=hc k hk
 have H0:Hid (blk ((w.alloc (.cells (coL C s).toArray 43)).alloc (.cells [bO false,I .u32 0,bO false,I J 0,sL none 0 0].toArray 67)) w.heap.size (coL C s) 43∧blk ((w.alloc (.cells (coL C s).toArray 43)).alloc (.cells [bO false,I .u32 0,bO false,I J 0,sL none 0 0].toArray 67)) (w.heap.size+1) [bO false,I .u32 0,bO false,I J 0,sL none 0 0] 67∧Below w.heap.size w ((w.alloc (.cells (coL C s).toArray 43)).alloc (.cells [bO false,I .u32 0,bO false,I J 0,sL none 0 0].toArray 67))):=by
  refine⟨(blk.new w _ 43).alloc _,?_,((Below.refl _ _).alloc (Nat.le_refl _) _).alloc (by simp) _⟩
  have:=blk.new (w.alloc (.cells (coL C s).toArray 43)) [bO false,I .u32 0,bO false,I J 0,sL none 0 0] 67
  simpa using this
 have HBZ:Hid (∀ V,Below w.heap.size w V→Calls Tp 48 #[aG (hoL C.ho s).toArray] V fun o w'=>o = rT (I J (k:Int))∧Below V.heap.size V w'):=fun V hV=>(l3busy_any V C.ho s (h.below hV).bx (by omega)).mono fun o w' ⟨z,h1,h2,h3⟩=>⟨by rw[h1,hz z h2],h3⟩
 have HQ:Hid (∀ V,Below w.heap.size w V→at8 V gb (off+k*8) C.ho.bx[k] ao m c):=fun V hV=>q.below hV
 have hkn:k<s.n2:=by omega
 have HEA:=hidYY ea
 clear h hz hln q hc ea;generalize C.ho.bx[k]=b at *;obtain⟨v0,hv0⟩ : ∃ v0,v0=(w.alloc (.cells (coL C s).toArray 43)).alloc (.cells [bO false,I .u32 0,bO false,I J 0,sL none 0 0].toArray 67):=⟨_,rfl⟩
 rw[← hv0] at H0
 go_enter Tryz.func27,Tryz.ntmps27
 go_upto_region 1 with fail
 rw[← hv0]
 clear hv0;refine wp_region_held (S:=fun X=>blk X w.heap.size (coL C s) 43∧Below w.heap.size w X) (by kernel_rfl) ?_
 have hS:blk (World.drew v0) w.heap.size (coL C s) 43∧Below w.heap.size w (World.drew v0):=⟨H0.out.1.below (Below.refl _ _).drew,H0.out.2.2.drew⟩
 have HR:Hid (blk (World.drew v0) (w.heap.size+1) [bO false,I .u32 0,bO false,I J 0,sL none 0 0] 67):=H0.out.2.1.below (Below.refl _ _).drew
 clear H0;change wpAnyH Tp _ _ _ _ _ _ _ (World.drew v0)
 generalize World.drew v0=v1 at *;refine wV 0 (pT (some ⟨w.heap.size,11,none⟩)) ?_ hS ?_
 ·intro W hSw;clear hS;go_simp
 simp only[Act.put,aA,aB,aC,aD,aE]
 refine wV 1 (pT (some ⟨w.heap.size,16,none⟩)) ?_ hS ?_
 ·intro W hSw;clear hS;go_simp
 simp only[aZ];refine wV 2 (sL (some ⟨gb,off,none⟩) s.n2 s.k2) ?_ hS ?_
 ·intro W hSw;clear hS;have y:=hSw.1.cell 16 (sL s.a2 s.n2 s.k2) rfl
  rw[HEA.out] at y
  go_simp
 simp only[aZ];refine wV 3 (pT (some ⟨w.heap.size,11,none⟩)) ?_ hS ?_
 ·intro W hSw;clear hS;go_simp
 simp only[aZ];refine wU 4 (aG (hoL C.ho s).toArray) rfl (yieldsIf_load_mid (by rfl) 41 _ rfl w.heap.size 11 rfl (hoL C.ho s) _ (fun X h=>h.1.hostAt) Tryz.underlying41 rfl (sz41L C.ho s)) hS ?_
 simp only[aZ];refine wpAnyH_all (rs:=[5]) (by kernel_rfl) (by simp) ?_
 refine AllReadyH.cons rfl (fun K2 hK2=>?_) AllReadyH.nil
 go_simp;refine (HBZ.out v1 hS.2).mono ?_
 rintro o w2 ⟨rfl,hb2⟩;have hS2:blk w2 w.heap.size (coL C s) 43∧Below w.heap.size w w2:=⟨hS.1.below hb2,hS.2.trans (hb2.mono hS.2.size)⟩
 have HR2:=hidYY (HR.out.below hb2)
 clear hb2 HR;go_wp2_with fail;refine hK2.out _ _ hS2 (fun hS3=>?_)
 clear hK2 K2 hS2 hS;have hS:=hS3
 clear hS3;refine wV 6 (pT (some ⟨gb,off+k*8,none⟩)) ?_ hS ?_
 ·intro W hSw;clear hS;go_simp
 simp only[aZ];refine wV 7 (pT (some ⟨gb,off+k*8+3,none⟩)) ?_ hS ?_
 ·intro W hSw;clear hS;go_simp
 simp only[aZ];refine wV 8 (aG #[bO b.e,I .u32 (b.i:Int),bO b.r,I J b.d,sL ao m c]) ?_ hS ?_
 ·intro W hSw;clear hS;have hq:=HQ.out W hSw.2
  have c3:=hq.c3
  have c4:=hq.c4
  have c5:=hq.c5
  have c6:=hq.c6
  have c7:=hq.cs
  clear hq;go_simp
 simp only[aZ];refine wpAnyH_all (rs:=[9]) (by kernel_rfl) (by simp) ?_
 refine AllReadyH.cons rfl (fun K2 hK2=>?_) AllReadyH.nil
 rw[if_pos (by rfl)]
 refine wp_store_mid 67 _ _ rfl (w.heap.size+1) 0 #[bO b.e,I .u32 (b.i:Int),bO b.r,I J b.d,sL ao m c] rfl rfl (HR2.out.there 0 5 (by simp)) sz93 (all_oneCell_toArray (by simp[Value.oneCell'])) ?_
 have HF:Hid (blk (w2.setCells (w.heap.size+1) 0 [bO b.e,I .u32 (b.i:Int),bO b.r,I J b.d,sL ao m c]) (w.heap.size+1) [bO b.e,I .u32 (b.i:Int),bO b.r,I J b.d,sL ao m c] 67):=by
  have:=blk.put [] [bO false,I .u32 0,bO false,I J 0,sL none 0 0] [] [bO b.e,I .u32 (b.i:Int),bO b.r,I J b.d,sL ao m c] (w:=w2) (b:=w.heap.size+1) (T:=67) (by simpa using HR2.out) rfl
  have e:blk (w2.setCells (w.heap.size+1) 0 [bO b.e,I .u32 (b.i:Int),bO b.r,I J b.d,sL ao m c]) (w.heap.size+1) [bO b.e,I .u32 (b.i:Int),bO b.r,I J b.d,sL ao m c] 67:=by simpa using this
  exact e
 have hS5:blk (w2.setCells (w.heap.size+1) 0 [bO b.e,I .u32 (b.i:Int),bO b.r,I J b.d,sL ao m c]) w.heap.size (coL C s) 43∧Below w.heap.size w (w2.setCells (w.heap.size+1) 0 [bO b.e,I .u32 (b.i:Int),bO b.r,I J b.d,sL ao m c]):=⟨hS.1.other (by omega) _ _,setCells_below (by omega) 0 _ hS.2⟩
 refine hK2.out _ _ hS5 (fun hS3=>?_)
 have HB:=hidYY hS3.2
 clear hK2 K2 hS5 hS hS3;refine wpAnyH_done (by kernel_rfl) ?_ _
 simp only[Act.put]
 go_wp2_with fail;refine bodyPost_ret (v:=frV b.e b.i b.r b.d ao m c) (results_cell Tryz.results27 _ _ (w.heap.size+1) _ rfl (run_loadVar_mid (P:=Tp) _ (w.heap.size+1) 0 67 _ _ HF.out.load Tryz.underlying67 rfl sz93)) rfl ?_
 exact⟨ao,m,c,rfl,(HQ.out _ HB.out).dat,HB.out⟩
structure okCo (C:Co):Prop where
 h:okHo C.ho
 m:okM C
 s:(C.p=1∧C.tx=true)↔wrP C.ho.bx
theorem phases {p:Int} (h0:¬ p<0) (h7:¬ 7<p):p=0∨p=1∨p=2∨p=3∨p=4∨p=5∨p=6∨p=7:=by omega
theorem isHo.two {w:World} {H:Ho} {s:Sl} (h:isHo w H s) (hok:okHo H):s.n2≤1000:=by
 have h1:=h.bx.len
 have h2:=hok.n2
 omega
theorem busyR (w:World) (H:Ho) (s:Sl) (h:isHo w H s) (hok:okHo H):Calls Tp 48 #[aG (hoL H s).toArray] w fun o w'=>∃ r:Int,o = rT (I J r)∧(0≤r↔wrP H.bx)∧Below w.heap.size w w':=by
 refine (l3busy_any w H s h.bx (h.two hok)).mono ?_
 rintro o w' ⟨r,rfl,hb,h2⟩;refine⟨r,rfl,?_,h2⟩
 have:=bsy_neg hb
 unfold wrP
 rw[← this]
 omega
theorem retB.to {o:Ending} {P Q:Prop} (h:retB o P) (e:P↔Q):retB o Q:=by
 obtain⟨b,h1,h2⟩:=h
 exact⟨b,h1,h2.trans e⟩
theorem l4ok_any (w:World) (C:Co) (s:Sl) (h:isHo w C.ho s) (hn:C.ho.le 1048576) :
  Calls Tp 25 #[aG (coL C s).toArray] w fun o w'=>retB o (okCo C)∧Below w.heap.size w w':=by
 refine (l4okG w C s (okHo C.ho) (wrP C.ho.bx) (fun W hW=>by rw[← hoV_L];exact l3ok_any W C.ho s (h.below hW) hn) (fun hok W hW=>busyR W C.ho s (h.below hW) hok)).mono ?_
 rintro o w' ⟨hr,hb⟩;exact⟨hr.to ⟨fun x=>⟨x.1,x.2.1,x.2.2⟩,fun x=>⟨x.h,x.m,x.s⟩⟩,hb⟩
theorem idxG {p:Int} (h:0≤p∧p≤7):∃ n,∀ W,(Instr.index 139 (aG prL.toArray) (I J p)).run Tp W = .ok (aG #[I J (rLo p),I J (rHi p),.func (.func n) #[] #[]]) W:=by
 rcases phases (p:=p) (by omega) (by omega) with rfl|rfl|rfl|rfl|rfl|rfl|rfl|rfl
 ·exact⟨_,idx_0⟩
 ·exact⟨_,idx_1⟩
 ·exact⟨_,idx_2⟩
 ·exact⟨_,idx_3⟩
 ·exact⟨_,idx_4⟩
 ·exact⟨_,idx_5⟩
 ·exact⟨_,idx_6⟩
 ·exact⟨_,idx_7⟩
theorem vmB_ok (C:Co):vmB C=true↔(((((((((0≤C.lv∧C.lv≤1)∧(C.lv=1→C.p=2∧C.wk=true∧0<C.ct))∧(C.wk=true→C.p=2∧C.ov=false))∧(C.ov=true→C.p=2∨C.p=3∨C.p=4))∧(C.ow=true→C.wk=true∧C.tx=true))∧(C.tx=true→C.p≠7∧C.p≠0))∧(C.p=6→C.tx=true))∧(C.ak=true→C.p=7))):=by
 unfold vmB
 simp only[Bool.and_eq_true,Bool.not_eq_true']
 rw[j1,k5,k6,k7,j5,j6,j7]
set_option maxRecDepth 20000 in
theorem validCore_any (w:World) (C:Co) (s:Sl) (h:isHo w C.ho s) (hn:C.ho.le 1048576) :
  Calls Tp 35 #[aG (coL C s).toArray] w fun o w'=>retB o (okCo C)∧Below w.heap.size w w':=by
 have hv:∀ W,Below w.heap.size w W→Calls Tp 67 #[aG (hoL C.ho s).toArray] W fun o w'=>retB o (okHo C.ho)∧Below W.heap.size W w':=fun W hW=>validHost_any W C.ho s (h.below hW) hn
 have hz:okHo C.ho→∀ W,Below w.heap.size w W→Calls Tp 70 #[aG (coL C s).toArray] W fun o w'=>retB o (wrP C.ho.bx)∧Below W.heap.size W w':=fun hok W hW=>isSending_any W C s (h.below hW).bx (h.two hok)
 by_cases hin:0≤C.p∧C.p≤7
 ·obtain⟨n,hix⟩:=idxG hin
  refine (validCore_gen w C s (okHo C.ho) _ _ (wrP C.ho.bx) hv (fun _ W _=>vcG W C s _ _ n hix) (fun _ W _=>vmG W C s) hz).mono ?_
  rintro o w' ⟨hr,hb⟩;refine⟨hr.to ?_,hb⟩
  rw[vmB_ok]
  constructor
  ·rintro⟨_,hh,⟨t1,t2,t3,t4,t5,t6⟩,⟨⟨⟨⟨⟨⟨⟨v1,v2⟩,v3⟩,v4⟩,v5⟩,v6⟩,v7⟩,v8⟩,hs⟩;refine⟨hh,⟨hin,t1,t2,t3,t4,v1,v2,v3,v4,v5,v6,v7,v8,by omega,fun ha=>?_⟩,hs⟩
   rcases t6 with⟨_,x⟩|⟨x,y⟩
   ·rw[ha] at x;cases x
   ·exact⟨x,fun e=>y.resolve_left (fun z=>z e)⟩
  ·intro x;refine⟨hin,x.h,⟨x.m.te,x.m.re,x.m.of,x.m.ct,by have:=x.m.rn;omega,?_⟩,⟨⟨⟨⟨⟨⟨⟨x.m.lv,x.m.l1⟩,x.m.wk⟩,x.m.ov⟩,x.m.ow⟩,x.m.tx⟩,x.m.t6⟩,x.m.ak⟩,x.s⟩
   cases ha:C.ak
   ·refine Or.inr ⟨(x.m.na ha).1,?_⟩
    by_cases e:C.p=7
    ·exact Or.inr ((x.m.na ha).2 e)
    ·exact Or.inl e
   ·exact Or.inl ⟨x.m.ak ha,rfl⟩
 ·refine (validCore_gen w C s (okHo C.ho) True True (wrP C.ho.bx) hv (fun x=>absurd x hin) (fun x=>absurd x hin) hz).mono ?_
  rintro o w' ⟨hr,hb⟩;exact⟨hr.to ⟨fun x=>absurd x.1 hin,fun x=>absurd x.m.p hin⟩,hb⟩
theorem okLC (W:World) (C:Co) (s:Sl) (h:isHo W C.ho s) (hn:C.ho.le 1048576) (hok:okCo C):Calls Tp 25 #[aG (coL C s).toArray] W fun o w'=>o = rT (bO true)∧Below W.heap.size W w':=(l4ok_any W C s h hn).mono (by rintro o w' ⟨⟨b,rfl,hb⟩,h2⟩;rw[hb.2 hok];exact⟨rfl,h2⟩)
theorem badLC (W:World) (C:Co) (s:Sl) (h:isHo W C.ho s) (hn:C.ho.le 1048576) (hok:¬ okCo C):Calls Tp 25 #[aG (coL C s).toArray] W fun o w'=>o = rT (bO false)∧Below W.heap.size W w':=(l4ok_any W C s h hn).mono (by rintro o w' ⟨⟨b,rfl,hb⟩,h2⟩;cases b;exact⟨rfl,h2⟩;exact absurd (hb.1 rfl) hok)
end Go.Proofs.YtbllefckefhpoaaGreat
