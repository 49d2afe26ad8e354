import Derived.Test.YtkfcfigbgmbaiaaGreatK45
import Derived.Test.YtkfcfigbgmbaiaaGreatK32
import Derived.Test.YtkfcfigbgmbaiaaGreatK40
namespace Go.Proofs.YtkfcfigbgmbaiaaGreat
open Go.RowKit
set_option linter.unusedVariables false
set_option maxHeartbeats 16000000
theorem okHo.dl {H:Ho} (h:okHo H):H.fs.length≤1000∧H.ff.length≤1000∧H.qu.length≤900∧(1≤H.c1∧H.c1≤1000∧(H.ff.length:Int)≤H.c1)∧(H.c2=0∨H.c2=1):=by
 have h1:=of_decide_eq_true h.cf
 have h2:=h.nq
 have h3:=h.nf
 have h4:=h.fs
 unfold okFs at h4
 rw[Bool.and_eq_true] at h4
 have h5:=of_decide_eq_true h4.1
 omega
theorem Ho.le.ffs {H:Ho} (h:H.le 1048576) {L:List R5} (hl:L.length≤1048576) (hd:∀ x ∈ L,x.l.length≤1048576):(fHo H L).le 1048576:=
 ⟨h.fs,h.bx,hl,h.qu,h.bd,fun j hj=>hd _ (List.getElem_mem hj),h.qd⟩
theorem delHo_le {H:Ho} {F:R5} (h:H.le 1048576) (hq:H.qu.length≤900) (hff:H.ff.length≤1000) (hf:F.l.length≤1048576):(delHo H F).le 1048576:=by
 have hm:∀ x ∈ H.ff,x.l.length≤1048576:=fun x hx=>by
  obtain⟨j,hj,rfl⟩:=List.getElem_of_mem hx
  exact h.fd j hj
 unfold delHo
 split
 ·split
  ·split
   ·exact Ho.le.post h (by omega) hf
   ·obtain⟨L,hL⟩ : ∃ L,H.ff=L:=⟨_,rfl⟩
    rw[hL] at hm hff ⊢
    cases L with
    | nil=>exact h
    | cons f r=>
     have h1:(postHo H (evF 3 0 0 f)).le 1048576:=Ho.le.post h (by omega) (hm f (by simp))
     have hql:(postHo H (evF 3 0 0 f)).qu.length≤1000:=by
      have:=quP_le H.c3 H.qu (evF 3 0 0 f)
      show (quP H.c3 H.qu (evF 3 0 0 f)).length≤_
      omega
     refine Ho.le.post (h1.ffs ?_ fun x hx=>?_) hql hf
     ·simp at hff ⊢;omega
     ·rcases List.mem_append.1 hx with hx|hx
      ·exact hm x (by simp[hx])
      ·simp at hx;rw[hx];exact hf
  ·refine Ho.le.post (h.ffs ?_ fun x hx=>?_) (by show H.qu.length≤_;omega) hf
   ·simp;omega
   ·rcases List.mem_append.1 hx with hx|hx
    ·exact hm x hx
    ·simp at hx;rw[hx];exact hf
 ·exact h
def fwB (tx va:Bool) (k:Int):Bool:=if k=1∨k=5 then tx else if k=2 then !tx && va else if k=3∨k=4 then !tx else false
set_option maxRecDepth 20000 in
theorem finishWants_any (w:World) (C:Co) (s:Sl) (k:Int) (F:R5) (fa:Option Addr) (fm fc:Nat) (hf:isBytes w fa fm fc F.l) :
  Calls Tryz.prog 50 #[.agg (coL C s).toArray,.int .i64 k,frV F.e F.i F.r F.d fa fm fc] w fun o w'=>o = .returned (.bool (fwB C.tx (validB F.e F.i F.r F.d fm) k))∧Below w.heap.size w w':=by
 have HB:Hid (Below w.heap.size w ((w.alloc (.cells (coL C s).toArray 41)).alloc (.cells [.bool F.e,.int .u32 (F.i:Int),.bool F.r,.int .i64 F.d,.slice fa fm fc].toArray 55))):=((Below.refl _ _).alloc (Nat.le_refl _) _).alloc (by simp) _
 have HP:Hid (blk ((w.alloc (.cells (coL C s).toArray 41)).alloc (.cells [.bool F.e,.int .u32 (F.i:Int),.bool F.r,.int .i64 F.d,.slice fa fm fc].toArray 55)) w.heap.size (coL C s) 41):=(blk.new w _ 41).alloc _
 have HF:Hid (blk ((w.alloc (.cells (coL C s).toArray 41)).alloc (.cells [.bool F.e,.int .u32 (F.i:Int),.bool F.r,.int .i64 F.d,.slice fa fm fc].toArray 55)) (w.heap.size+1) [.bool F.e,.int .u32 (F.i:Int),.bool F.r,.int .i64 F.d,.slice fa fm fc] 55):=by
  have:=blk.new (w.alloc (.cells (coL C s).toArray 41)) [.bool F.e,.int .u32 (F.i:Int),.bool F.r,.int .i64 F.d,.slice fa fm fc] 55
  have e:(w.alloc (.cells (coL C s).toArray 41)).heap.size=w.heap.size+1:=by simp
  rw[e] at this
  exact this
 generalize hV:((w.alloc (.cells (coL C s).toArray 41)).alloc (.cells [.bool F.e,.int .u32 (F.i:Int),.bool F.r,.int .i64 F.d,.slice fa fm fc].toArray 55))=V at *;have HVC:Hid (Calls Tryz.prog 112 #[frV F.e F.i F.r F.d fa fm fc] V fun o w'=>o = .returned (.bool (validB F.e F.i F.r F.d fm))∧Below V.heap.size V w'):=valid_any V _ _ _ _ _ _ _ _ (hf.below HB.out)
 have y6:=HP.out.cell 6 (.bool C.tx) rfl
 generalize validB F.e F.i F.r F.d fm=va at *;obtain⟨tx,etx⟩ : ∃ b,C.tx=b:=⟨_,rfl⟩
 rw[etx] at y6 ⊢
 clear etx hf;obtain⟨b1,e1,_,f1⟩:=eqB k 1
 obtain⟨b2,e2,_,f2⟩:=eqB k 2
 obtain⟨b3,e3,_,f3⟩:=eqB k 3
 obtain⟨b4,e4,_,f4⟩:=eqB k 4
 obtain⟨b5,e5,_,f5⟩:=eqB k 5
 have HW:Hid (fwB tx va k=(if (b1 || b5)=true then tx else if b2=true then !tx && va else if (b3 || b4)=true then !tx else false)):=by
  show _=_
  unfold fwB
  simp only[Bool.or_eq_true,f1.out,f2.out,f3.out,f4.out,f5.out]
 clear f1 f2 f3 f4 f5;cases b1
 case true=>
  clear e2 e3 e4 e5;go_enter Tryz.func50,Tryz.ntmps50
  try rw[hV]
  go_wp2_with fail;go_ret;exact⟨by rw[HW.out];rfl,HB.out⟩
 cases b5
 case true=>
  clear e2 e3 e4;go_enter Tryz.func50,Tryz.ntmps50
  try rw[hV]
  go_wp2_with fail;go_ret;exact⟨by rw[HW.out];rfl,HB.out⟩
 cases b2
 case true=>
  clear e3 e4;cases tx
  ·go_enter Tryz.func50,Tryz.ntmps50
   try rw[hV]
   go_wp2_with (first | (refine wpList_load_midG (by first | rfl | (simp[Region.wanted,yielded];done) | (simp[Region.wanted,yielded];omega)) 55 (.tmp 5) rfl (w.heap.size+1) 0 rfl [.bool F.e,.int .u32 (F.i:Int),.bool F.r,.int .i64 F.d,.slice fa fm fc] _ HF.out.load Tryz.underlying55 rfl sz93 ?_))
   refine HVC.out.mono ?_
   rintro o w1 ⟨rfl,hb1⟩;have HB1:Hid (Below w.heap.size w w1):=HB.out.trans (hb1.mono HB.out.size)
   clear hb1;go_wp2_with fail;go_ret;exact⟨by rw[HW.out];cases va <;> rfl,HB1.out⟩
  ·go_enter Tryz.func50,Tryz.ntmps50
   try rw[hV]
   go_wp2_with fail;go_ret;exact⟨by rw[HW.out];rfl,HB.out⟩
 cases b3
 case true=>
  clear e4;go_enter Tryz.func50,Tryz.ntmps50
  try rw[hV]
  go_wp2_with fail;go_ret;exact⟨by rw[HW.out];rfl,HB.out⟩
 cases b4
 case true=>
  go_enter Tryz.func50,Tryz.ntmps50
  try rw[hV]
  go_wp2_with fail;go_ret;exact⟨by rw[HW.out];rfl,HB.out⟩
 go_enter Tryz.func50,Tryz.ntmps50
 try rw[hV]
 go_wp2_with fail;go_ret;exact⟨by rw[HW.out];rfl,HB.out⟩
structure itG (w:World) (C:Co) (s:Sl) (k:Int) (L:List Value) (W:World):Prop where
 p:blk W w.heap.size (coL C s) 41
 x:blk W (w.heap.size+1) [.int .i64 k] 3
 f:blk W (w.heap.size+2) L 55
 r:blk W (w.heap.size+3) Z21 41
 b:Below w.heap.size w W
theorem itG.below {w:World} {C:Co} {s:Sl} {k:Int} {L:List Value} {W W':World} (h:itG w C s k L W) (hb:Below W.heap.size W W'):itG w C s k L W':=⟨h.p.below hb,h.x.below hb,h.f.below hb,h.r.below hb,h.b.trans (hb.mono h.b.size)⟩
theorem itG.new (w:World) (C:Co) (s:Sl) (k:Int) (L:List Value):itG w C s k L ((((w.alloc (.cells (coL C s).toArray 41)).alloc (.cells #[.int .i64 k] 3)).alloc (.cells L.toArray 55)).alloc (.cells #[.int .i64 0,.int .i64 0,.int .i64 0,.bool false,.bool false,.bool false,.bool false,.bool false,.int .i64 0,.int .i64 0,.int .i64 0,.int .i64 0,.int .i64 0,.int .i64 0,.int .i64 0,.slice none 0 0,.slice none 0 0,.slice none 0 0,.slice none 0 0,.int .i64 0,.int .i64 0] 41)):=by
 have n1:=blk.new w (coL C s) 41
 have n2:=blk.new (w.alloc (.cells (coL C s).toArray 41)) [.int .i64 k] 3
 have n3:=blk.new ((w.alloc (.cells (coL C s).toArray 41)).alloc (.cells #[.int .i64 k] 3)) L 55
 have n4:=blk.new (((w.alloc (.cells (coL C s).toArray 41)).alloc (.cells #[.int .i64 k] 3)).alloc (.cells L.toArray 55)) Z21 41
 have e1:(w.alloc (.cells (coL C s).toArray 41)).heap.size=w.heap.size+1:=by simp
 have e2:((w.alloc (.cells (coL C s).toArray 41)).alloc (.cells #[.int .i64 k] 3)).heap.size=w.heap.size+2:=by simp
 have e3:(((w.alloc (.cells (coL C s).toArray 41)).alloc (.cells #[.int .i64 k] 3)).alloc (.cells L.toArray 55)).heap.size=w.heap.size+3:=by simp
 rw[e1] at n2
 rw[e2] at n3
 rw[e3] at n4
 exact⟨((n1.alloc _).alloc _).alloc _,(n2.alloc _).alloc _,n3.alloc _,n4,((((Below.refl _ _).alloc (Nat.le_refl _) _).alloc (by simp) _).alloc (by simp;omega) _).alloc (by simp;omega) _⟩
def okFi (C:Co) (k:Int) (va:Bool):Prop:=okCo C∧C.p=1∧fwB C.tx va k=true
set_option maxRecDepth 20000 in
theorem implFinish_any (w:World) (C:Co) (s:Sl) (k:Int) (F:R5) (fa:Option Addr) (fm fc:Nat) (h:isHo w C.ho s) (hs:slSome s) (hn:C.ho.le 1048576) (hf:isBytes w fa fm fc F.l) (hfm:fm≤1048576) :
  Calls Tryz.prog 20 #[.agg (coL C s).toArray,.int .i64 k,frV F.e F.i F.r F.d fa fm fc] w fun o w'=>(okFi C k (validB F.e F.i F.r F.d fm)∧toldC w (actC C (finC C k F)) o w')∨(¬ okFi C k (validB F.e F.i F.r F.d fm)∧o = .returned (.agg [.int .i64 0,.int .i64 0,.int .i64 0,.bool false,.bool false,.bool false,.bool false,.bool false,.int .i64 0,.int .i64 0,.int .i64 0,.int .i64 0,.int .i64 0,.int .i64 0,.int .i64 0,.slice none 0 0,.slice none 0 0,.slice none 0 0,.slice none 0 0,.int .i64 0,.int .i64 0].toArray)∧Below w.heap.size w w'):=by
 have H0:Hid (itG w C s k [.bool F.e,.int .u32 (F.i:Int),.bool F.r,.int .i64 F.d,.slice fa fm fc] ((((w.alloc (.cells (coL C s).toArray 41)).alloc (.cells #[.int .i64 k] 3)).alloc (.cells [.bool F.e,.int .u32 (F.i:Int),.bool F.r,.int .i64 F.d,.slice fa fm fc].toArray 55)).alloc (.cells #[.int .i64 0,.int .i64 0,.int .i64 0,.bool false,.bool false,.bool false,.bool false,.bool false,.int .i64 0,.int .i64 0,.int .i64 0,.int .i64 0,.int .i64 0,.int .i64 0,.int .i64 0,.slice none 0 0,.slice none 0 0,.slice none 0 0,.slice none 0 0,.int .i64 0,.int .i64 0] 41))):=itG.new w C s k _
 have y0:=H0.out.p.cell 0 (.int .i64 C.p) rfl
 have x0:=H0.out.x.cell 0 (.int .i64 k) rfl
 have hb0:=H0.out.b
 generalize hW0:((((w.alloc (.cells (coL C s).toArray 41)).alloc (.cells #[.int .i64 k] 3)).alloc (.cells [.bool F.e,.int .u32 (F.i:Int),.bool F.r,.int .i64 F.d,.slice fa fm fc].toArray 55)).alloc (.cells #[.int .i64 0,.int .i64 0,.int .i64 0,.bool false,.bool false,.bool false,.bool false,.bool false,.int .i64 0,.int .i64 0,.int .i64 0,.int .i64 0,.int .i64 0,.int .i64 0,.int .i64 0,.slice none 0 0,.slice none 0 0,.slice none 0 0,.slice none 0 0,.int .i64 0,.int .i64 0] 41))=W0 at *;have hmf:∀ (fn:Fn) (first cap:Array Value) (w:World),(Instr.makeFunc fn first cap).run Tryz.prog w = .ok (.func fn first cap) w:=fun _ _ _ _=>rfl
 obtain⟨p1,e1,n1,f1⟩:=eqB C.p 1
 have HFW:Hid (Calls Tryz.prog 50 #[.agg (coL C s).toArray,.int .i64 k,frV F.e F.i F.r F.d fa fm fc] W0 fun o w'=>o = .returned (.bool (fwB C.tx (validB F.e F.i F.r F.d fm) k))∧Below W0.heap.size W0 w'):=finishWants_any W0 C s k F fa fm fc (hf.below hb0)
 have HCY:Hid (∀ V,itG w C s k [.bool F.e,.int .u32 (F.i:Int),.bool F.r,.int .i64 F.d,.slice fa fm fc] V→Calls Tryz.prog 37 #[.agg (coL C s).toArray,.bool true,.func (.func 51) #[] #[.pointer (some ⟨w.heap.size+1,0,none⟩),.pointer (some ⟨w.heap.size+2,0,none⟩)]] V fun o w'=>(okCo C∧toldC V (actC C (finC C k F)) o w')∨(¬ okCo C∧o = .returned (.agg [.int .i64 0,.int .i64 0,.int .i64 0,.bool false,.bool false,.bool false,.bool false,.bool false,.int .i64 0,.int .i64 0,.int .i64 0,.int .i64 0,.int .i64 0,.int .i64 0,.int .i64 0,.slice none 0 0,.slice none 0 0,.slice none 0 0,.slice none 0 0,.int .i64 0,.int .i64 0].toArray)∧Below V.heap.size V w')):=fun V hV=>
  changed_gen V C (actC C (finC C k F)) s _ (h.below hV.b) hn fun hok W hW=>open_fin W C _ s _ (h.below (hV.b.trans (hW.mono hV.b.size))) hs hok hn fun w0 M G f1' f3' nm V' hw0 hV' hm=>
   act_fin hm (finC C k F) (w.heap.size+1) (w.heap.size+2) (fun X=>X.cell? ⟨w.heap.size+1,0,none⟩=some (.int .i64 k)∧blk X (w.heap.size+2) [.bool F.e,.int .u32 (F.i:Int),.bool F.r,.int .i64 F.d,.slice fa fm fc] 55) (fun X hX=>by
    have:=((hV.below hW).below hV').below hX
    exact⟨this.x.cell 0 _ rfl,this.f⟩) fun X hX hy=>lit51 hX _ _ k F fa fm fc hy.1 hy.2 (hf.below ((hV.b.trans (hW.mono hV.b.size)).trans (hw0.mono (hV.b.trans (hW.mono hV.b.size)).size))) hfm hok.h.dl.2.2.2.2 hok.m.te hok.m.re hok.h.bx.wf
 have HCN:Hid (∀ V,Calls Tryz.prog 37 #[.agg (coL C s).toArray,.bool false,.func (.func 51) #[] #[.pointer (some ⟨w.heap.size+1,0,none⟩),.pointer (some ⟨w.heap.size+2,0,none⟩)]] V fun o w'=>o = .returned (.agg [.int .i64 0,.int .i64 0,.int .i64 0,.bool false,.bool false,.bool false,.bool false,.bool false,.int .i64 0,.int .i64 0,.int .i64 0,.int .i64 0,.int .i64 0,.int .i64 0,.int .i64 0,.slice none 0 0,.slice none 0 0,.slice none 0 0,.slice none 0 0,.int .i64 0,.int .i64 0].toArray)∧Below V.heap.size V w'):=fun V=>changed_no V C s _
 clear h hn hs hb0 hf;obtain⟨fw,efw⟩ : ∃ b,fwB C.tx (validB F.e F.i F.r F.d fm) k=b:=⟨_,rfl⟩
 rw[efw] at HFW
 have HEF:=hidX efw
 clear efw;go_enter Tryz.func20,Tryz.ntmps20
 go_upto_region 1 with fail
 try rw[hW0]
 go_cut [7] (fun x wx=>x = .bool (p1 && fw)∧Hid (itG w C s k [.bool F.e,.int .u32 (F.i:Int),.bool F.r,.int .i64 F.d,.slice fa fm fc] wx))
 case first=>
  cases p1
  ·go_wp2_with fail;go_meet
   case rel=>exact⟨rfl,H0.out⟩
  ·go_wp2_with (first | (refine wpList_load_midG (by first | rfl | (simp[Region.wanted,yielded];done) | (simp[Region.wanted,yielded];omega)) 41 (.tmp 3) rfl w.heap.size 0 rfl (coL C s) _ H0.out.p.load Tryz.underlying41 rfl (szC41L C s) ?_) | (refine wpList_load_midG (by first | rfl | (simp[Region.wanted,yielded];done) | (simp[Region.wanted,yielded];omega)) 55 (.tmp 5) rfl (w.heap.size+2) 0 rfl [.bool F.e,.int .u32 (F.i:Int),.bool F.r,.int .i64 F.d,.slice fa fm fc] _ H0.out.f.load Tryz.underlying55 rfl sz93 ?_))
   refine HFW.out.mono ?_
   rintro o w1 ⟨rfl,hb1⟩;have H1:=hidX (H0.out.below hb1)
   clear hb1;cases fw <;> (
    go_wp2_with fail;go_meet
    case rel=>exact⟨rfl,H1.out⟩)
 case rest=>
 obtain⟨rfl,H1⟩:=hcut
 obtain⟨c,ec⟩ : ∃ c,(p1 && fw)=c:=⟨_,rfl⟩
 rw[ec]
 have HE:=hidX ec
 clear ec y0 x0 n1 e1 hW0 HFW H0;have HZ:Hid (w.heap.size≤wc.heap.size∧w.heap.size+3<wc.heap.size):=⟨H1.out.b.size,H1.out.r.lt⟩
 have HOF:Hid (okFi C k (validB F.e F.i F.r F.d fm)↔(okCo C∧c=true)):=by
  show _↔_
  unfold okFi
  rw[← HE.out,Bool.and_eq_true,f1.out,HEF.out]
 clear HE f1;cases c
 case false=>
  have HNO:Hid (¬ okFi C k (validB F.e F.i F.r F.d fm)):=fun x=>by have:=(HOF.out.1 x).2;cases this
  go_wp2_with (first | (refine wpList_load_mid (P:=Tryz.prog) rfl 41 (.tmp 3) rfl w.heap.size 0 rfl (coL C s) _ H1.out.p.load Tryz.underlying41 rfl (szC41L C s) ?_))
  refine (HCN.out _).mono ?_
  rintro o w1 ⟨rfl,hb4⟩;have H4:=hidX (H1.out.below hb4)
  clear hb4 HCN HCY;go_wp2_with (first | (refine wpList_store_mid (P:=Tryz.prog) rfl 41 (.tmp 6) (.tmp 20) rfl (w.heap.size+3) 0 [.int .i64 0,.int .i64 0,.int .i64 0,.bool false,.bool false,.bool false,.bool false,.bool false,.int .i64 0,.int .i64 0,.int .i64 0,.int .i64 0,.int .i64 0,.int .i64 0,.int .i64 0,.slice none 0 0,.slice none 0 0,.slice none 0 0,.slice none 0 0,.int .i64 0,.int .i64 0].toArray rfl rfl (H4.out.r.there 0 21 (by simp[Z21])) szC41 (all_oneCell_toArray (by simp[Value.oneCell'])) ?_;generalize hW8:World.setCells w1 (w.heap.size+3) 0 _=w8;have HW8:Hid (_=w8):=hW8;clear hW8))
  have e8:=HW8.out
  have hF:blk w8 (w.heap.size+3) Z21 41:=by
   rw[← e8]
   exact H4.out.r.core rfl zCo zSl
  have hL:=run_loadVar_mid (P:=Tryz.prog) w8 (w.heap.size+3) 0 41 _ _ hF.load Tryz.underlying41 rfl (szC41L zCo zSl)
  refine bodyPost_ret (v:=.agg [.int .i64 0,.int .i64 0,.int .i64 0,.bool false,.bool false,.bool false,.bool false,.bool false,.int .i64 0,.int .i64 0,.int .i64 0,.int .i64 0,.int .i64 0,.int .i64 0,.int .i64 0,.slice none 0 0,.slice none 0 0,.slice none 0 0,.slice none 0 0,.int .i64 0,.int .i64 0].toArray) (results_cell Tryz.results20 _ w8 (w.heap.size+3) _ rfl hL) rfl ?_
  exact Or.inr ⟨HNO.out,rfl,by rw[← e8];exact setCells_below (by omega) 0 _ H4.out.b⟩
 case true=>
 go_wp2_with (first | (refine wpList_load_mid (P:=Tryz.prog) rfl 41 (.tmp 3) rfl w.heap.size 0 rfl (coL C s) _ H1.out.p.load Tryz.underlying41 rfl (szC41L C s) ?_))
 refine (HCY.out _ H1.out).mono ?_
 rintro o w1 (⟨hok,s4,rfl,q1,q2,q3,q4,hb4⟩|⟨hok,rfl,hb4⟩)
 ·have H4:=hidX (H1.out.below hb4)
  have HQ:Hid (St wc.heap.size w1 (fun W=>isHo W (actC C (finC C k F)).ho s4.sl)∧whS wc.heap.size w1.heap.size w1 s4∧whD s4∧whE s4):=⟨q1,q2,q3,q4⟩
  have HOK:Hid (okCo C):=hok
  clear q1 q2 q3 q4 hb4 hok HCY HCN;go_wp2_with (first
   | (refine wpList_store_mid (P:=Tryz.prog) rfl 41 (.tmp 6) (.tmp 20) rfl (w.heap.size+3) 0 (coL (actC C (finC C k F)) s4.sl).toArray rfl rfl (H4.out.r.there 0 _ (by rw[List.size_toArray,coL_len];decide)) (szC41A _ _) (coL_one _ _) ?_;generalize hW8:World.setCells w1 (w.heap.size+3) 0 _=w8;have HW8:Hid (_=w8):=hW8;clear hW8))
  have e8:=HW8.out
  have hF:blk w8 (w.heap.size+3) (coL (actC C (finC C k F)) s4.sl) 41:=by
   rw[← e8]
   exact H4.out.r.core rfl _ _
  have hL:=run_loadVar_mid (P:=Tryz.prog) w8 (w.heap.size+3) 0 41 _ _ hF.load Tryz.underlying41 rfl (szC41L _ _)
  refine bodyPost_ret (v:=.agg (coL (actC C (finC C k F)) s4.sl).toArray) (results_cell Tryz.results20 _ w8 (w.heap.size+3) _ rfl hL) rfl ?_
  have oth:∀ x,x≠w.heap.size+3→w8.heap[x]?=w1.heap[x]?:=fun x hx=>by rw[← e8];exact setCells_other _ x hx _ _ _
  have hsz:w8.heap.size=w1.heap.size:=by rw[← e8];exact setCells_size ..
  have hp:=toldQ.put (w:=w) HZ.out.1 HZ.out.2 HQ.out.1 HQ.out.2.1 oth hsz
  exact Or.inl ⟨HOF.out.2 ⟨HOK.out,by simp⟩,s4,rfl,hp.1,hp.2,HQ.out.2.2.1,HQ.out.2.2.2,by rw[← e8];exact setCells_below (by omega) 0 _ H4.out.b⟩
 ·have H4:=hidX (H1.out.below hb4)
  have HNO:Hid (¬ okFi C k (validB F.e F.i F.r F.d fm)):=fun x=>hok x.1
  clear hb4 hok HCY HCN;go_wp2_with (first | (refine wpList_store_mid (P:=Tryz.prog) rfl 41 (.tmp 6) (.tmp 20) rfl (w.heap.size+3) 0 [.int .i64 0,.int .i64 0,.int .i64 0,.bool false,.bool false,.bool false,.bool false,.bool false,.int .i64 0,.int .i64 0,.int .i64 0,.int .i64 0,.int .i64 0,.int .i64 0,.int .i64 0,.slice none 0 0,.slice none 0 0,.slice none 0 0,.slice none 0 0,.int .i64 0,.int .i64 0].toArray rfl rfl (H4.out.r.there 0 21 (by simp[Z21])) szC41 (all_oneCell_toArray (by simp[Value.oneCell'])) ?_;generalize hW8:World.setCells w1 (w.heap.size+3) 0 _=w8;have HW8:Hid (_=w8):=hW8;clear hW8))
  have e8:=HW8.out
  have hF:blk w8 (w.heap.size+3) Z21 41:=by
   rw[← e8]
   exact H4.out.r.core rfl zCo zSl
  have hL:=run_loadVar_mid (P:=Tryz.prog) w8 (w.heap.size+3) 0 41 _ _ hF.load Tryz.underlying41 rfl (szC41L zCo zSl)
  refine bodyPost_ret (v:=.agg [.int .i64 0,.int .i64 0,.int .i64 0,.bool false,.bool false,.bool false,.bool false,.bool false,.int .i64 0,.int .i64 0,.int .i64 0,.int .i64 0,.int .i64 0,.int .i64 0,.int .i64 0,.slice none 0 0,.slice none 0 0,.slice none 0 0,.slice none 0 0,.int .i64 0,.int .i64 0].toArray) (results_cell Tryz.results20 _ w8 (w.heap.size+3) _ rfl hL) rfl ?_
  exact Or.inr ⟨HNO.out,rfl,by rw[← e8];exact setCells_below (by omega) 0 _ H4.out.b⟩
end Go.Proofs.YtkfcfigbgmbaiaaGreat
