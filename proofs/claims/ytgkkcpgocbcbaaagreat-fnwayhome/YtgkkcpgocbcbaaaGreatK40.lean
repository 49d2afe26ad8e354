import Derived.Test.YtgkkcpgocbcbaaaGreatK39
import Derived.Test.YtgkkcpgocbcbaaaGreatK22
import Derived.Test.YtgkkcpgocbcbaaaGreatK38
namespace Go.Proofs.YtgkkcpgocbcbaaaGreat
open Go.RowKit
set_option linter.unusedVariables false
variable {w0 : World} {M : Nat} {G : Lg} {f1 f3 nm : Nat} {C : Co} {W : World}
theorem okCo.ct {C:Co} (h:okCo C):0≤C.ct∧C.ct≤200:=by
 have h1:=h.m.ct
 unfold rLo rHi at h1
 constructor
 ·have h2:=h1.1
  split at h2 <;> omega
 ·have h2:=h1.2
  clear h1
  split at h2
  ·omega
  split at h2
  ·omega
  split at h2
  ·omega
  split at h2
  ·omega
  split at h2
  ·omega
  split at h2 <;> omega
theorem stepM_any (h:mx w0 M G f1 f3 nm C W) (bit r:Int) (hk:okCo C) (h1:C.p≠1) (hb:bestR C.ho.bx r) :
  Calls Tryz.prog 20 #[.pointer (some ⟨M,0,none⟩),.int .i64 bit] W fun o w'=>o = .returned (.tuple #[])∧mx w0 M G f1 f3 nm (stpC C bit r) w':=by
 have hc:=hk.ct
 have ht:=hk.m.te
 have hr:=hk.m.re
 have hn:=hk.m.rn
 have hwf:=hk.h.bx.wf
 have hok:=hk.h.bx
 have hp:=hk.m.p
 have hq:C.p=0∨C.p=2∨C.p=3∨C.p=4∨C.p=5∨C.p=6∨C.p=7:=by omega
 rcases hq with e|e|e|e|e|e|e
 ·rw[show stpC C bit r=idC C bit by unfold stpC;simp[e]]
  exact step_0 h bit _ e (fun X hX=>idle_any hX bit)
 ·rw[show stpC C bit r=flC C bit by unfold stpC;simp[e]]
  exact step_2 h bit _ e (fun X hX=>flagS_any hX bit hc ht hr hwf)
 ·rw[show stpC C bit r=waC C bit by unfold stpC;simp[e]]
  exact step_3 h bit _ e (fun X hX=>wait_any hX bit hc ht hr)
 ·rw[show stpC C bit r=dlC C bit by unfold stpC;simp[e]]
  exact step_4 h bit _ e (fun X hX=>delim_any hX bit hc ht hr hwf)
 ·rw[show stpC C bit r=gpC C bit r by unfold stpC;simp[e]]
  exact step_5 h bit _ e (fun X hX=>gap_any hX bit hc hok r hb)
 ·rw[show stpC C bit r=suC C bit by unfold stpC;simp[e]]
  exact step_6 h bit _ e (fun X hX=>suspend_any hX bit hc)
 ·rw[show stpC C bit r=ofC C bit by unfold stpC;simp[e]]
  exact step_7 h bit _ e (fun X hX=>offS_any hX bit hc hn)
set_option maxHeartbeats 8000000 in
set_option maxRecDepth 20000 in
theorem lit57 (h:mx w0 M G f1 f3 nm C W) (Bx:Nat) (bit r:Int) (yb:W.cell? ⟨Bx,0,none⟩=some (.int .i64 bit)) (hk:okCo C) (h1:C.p≠1) (hb:bestR C.ho.bx r) :
  Calls Tryz.prog 19 #[.pointer (some ⟨M,0,none⟩),.pointer (some ⟨Bx,0,none⟩)] W fun o w'=>o = .returned (.tuple #[])∧mx w0 M G f1 f3 nm (stpC C bit r) w':=by
 have HS:=hidX (stepM_any h bit r hk h1 hb)
 clear h hk h1 hb
 go_enter Tryz.func19,Tryz.ntmps19
 go_wp2_with fail
 refine HS.out.mono ?_
 rintro o w5 ⟨rfl,hq⟩
 have HQ:=hidX hq
 clear hq
 go_wp2_with fail
 first | go_end0 | (simp only[Exit.inBlock,Exit.then];refine bodyPost_ret (results_none rfl _ _ _) rfl ?_) | refine bodyPost_ret (results_none rfl _ _ _) rfl ?_
 exact⟨rfl,HQ.out⟩
theorem mx.tell (h:mx w0 M G f1 f3 nm C W) (z:Int):Calls Tryz.prog 57 #[.pointer (some ⟨M,0,none⟩),.int .i64 z] W fun o w'=>o = .returned (.tuple #[])∧mx w0 M G f1 f3 nm (tellC C z) w':=by
 obtain⟨_,_,h⟩:=h
 exact (tell_any h z).mono fun o w' ⟨h1,h2⟩=>⟨h1,_,_,h2⟩
set_option maxHeartbeats 8000000 in
set_option maxRecDepth 20000 in
theorem act_stp (h:mx w0 M G f1 f3 nm C W) (A:Co) (Bx:Nat) (bit:Int) (yb:W.cell? ⟨Bx,0,none⟩=some (.int .i64 bit)) (hc:∀ X,mx w0 M G f1 f3 nm C X→X.cell? ⟨Bx,0,none⟩=some (.int .i64 bit)→Calls Tryz.prog 19 #[.pointer (some ⟨M,0,none⟩),.pointer (some ⟨Bx,0,none⟩)] X fun o w'=>o = .returned (.tuple #[])∧mx w0 M G f1 f3 nm A w') :
  Calls Tryz.prog 38 #[.pointer (some ⟨M,0,none⟩),.func (.func 19) #[] #[.pointer (some ⟨Bx,0,none⟩)]] W fun o w'=>o = .returned (.tuple #[])∧mx w0 M G f1 f3 nm (actC C A) w':=by
 have HS:=hidX h.state
 have HC:=hidX hc
 have HYB:=hidX yb
 obtain⟨z0,ez0⟩ : ∃ z,stZ C.te C.re=z:=⟨_,rfl⟩
 obtain⟨z1,ez1⟩ : ∃ z,stZ A.te A.re=z:=⟨_,rfl⟩
 have HS2:Hid (∀ X,mx w0 M G f1 f3 nm A X→Calls Tryz.prog 56 #[.pointer (some ⟨M,0,none⟩)] X fun o w'=>o = .returned (.int .i64 z1)∧mx w0 M G f1 f3 nm A w'):=fun X hX=>by rw[← ez1];exact hX.state.mono fun o w' ⟨a,b,_⟩=>⟨a,b⟩
 obtain⟨b2,e2,_,f2⟩:=eqB z1 2
 obtain⟨b7,e7,n7,f7⟩:=eqB A.p 7
 have HA:Hid (actC C A=tellC (if (b2 && !b7)=true then offC A else A) z0):=by
  have h1:(A.te=256∧A.p≠7)↔(b2 && !b7)=true:=by
   have h2:b2=true↔A.te=256:=by
    rw[f2.out,← ez1]
    unfold stZ
    split
    ·simp_all
    ·split <;> simp_all
   rw[← h2,ne_eq,← f7.out]
   cases b2 <;> cases b7 <;> simp
  show _=_
  unfold actC
  simp only[h1,ez0]
 rw[ez0] at HS
 clear h yb hc ez0 ez1 f2 f7
 go_enter Tryz.func38,Tryz.ntmps38
 go_wp2_with fail
 refine HS.out.mono ?_
 rintro o w1 ⟨rfl,h1,hb1⟩
 have H1:=hidX (And.intro h1 ((hb1.cell (by exact World.block_lt_of_cell? W _ HYB.out)).trans HYB.out))
 clear h1 hb1 HS
 go_wp2_with fail
 refine (HC.out _ H1.out.1 H1.out.2).mono ?_
 rintro o w2 ⟨rfl,h2⟩
 have H2:=hidX h2
 clear h2 H1 HC
 go_upto_region 2 with fail
 go_cut [24] (fun x wx=>x = .bool (b2 && !b7)∧Hid (mx w0 M G f1 f3 nm A wx))
 case first=>
  cases b2 <;> cases b7 <;> (
   go_wp2_with fail
   refine (HS2.out _ H2.out).mono ?_
   rintro o w3 ⟨rfl,h3⟩
   have H3:=hidX h3
   have y3:=h3.m.cell 3 (.int .i64 A.p) rfl
   clear h3
   go_wp2_with fail
   go_meet
   case rel=>exact⟨rfl,H3.out⟩)
 case rest=>
 obtain⟨rfl,H3⟩:=hcut
 obtain⟨c,ec⟩ : ∃ c,(b2 && !b7)=c:=⟨_,rfl⟩
 rw[ec] at HA ⊢
 clear ec e2 e7 n7 H2 HS2
 go_upto_if 24 with fail
 go_cut [] (fun wx=>Hid (mx w0 M G f1 f3 nm (if c=true then offC A else A) wx))
 case first=>
  cases c
  ·go_wp2_with fail
   go_meet
   case rel=>exact H3.out
  ·go_wp2_with (first
    | (refine wpList_store_mid (P:=Tryz.prog) rfl 100 (.tmp 28) (.tmp 26) rfl M 3 #[.int .i64 7,.int .i64 0,.int .i64 0,.bool false,.bool false,.bool false,.bool false,.bool false,.int .i64 0] rfl rfl (H3.out.m.there 3 9 (by rw[mcL_len];decide)) sz116 (all_oneCell_toArray (by simp[Value.oneCell'])) ?_;generalize hW4:World.setCells _ M 3 _=w4;have H4:=hidE hW4 H3.out.off;clear hW4))
   go_meet
   case rel=>exact H4.out
 case rest=>
 have H5:=hcut
 clear hcut H3
 go_wp2_with fail
 refine (H5.out.tell z0).mono ?_
 rintro o w5 ⟨rfl,h6⟩
 have H6:=hidX h6
 clear h6
 go_wp2_with fail
 first | go_end0 | (simp only[Exit.inBlock,Exit.then];refine bodyPost_ret (results_none rfl _ _ _) rfl ?_) | refine bodyPost_ret (results_none rfl _ _ _) rfl ?_
 exact⟨rfl,by rw[HA.out];exact H6.out⟩
theorem mx.told (h:mx w0 M G f1 f3 nm C W):Calls Tryz.prog 39 #[.pointer (some ⟨M,0,none⟩)] W (toldC W C):=by
 obtain⟨_,_,h⟩:=h
 exact mtold_any W M G.P C h.m (fun Y hY=>(h.h.below hY).told)
theorem open_any (w:World) (C R:Co) (s:Sl) (fv:Value) (h:isHo w C.ho s) (hs:slSome s) (hok:okCo C) (hm:C.ho.le 1048576) (ha:∀ (w0:World) (M:Nat) (G:Lg) (f1 f3 nm:Nat) (W:World),Below w.heap.size w w0→Below w.heap.size w W→mx w0 M G f1 f3 nm C W→Calls Tryz.prog 38 #[.pointer (some ⟨M,0,none⟩),fv] W fun o w'=>o = .returned (.tuple #[])∧mx w0 M G f1 f3 nm R w') :
  Calls Tryz.prog 37 #[.agg (coL C s).toArray] w fun o w'=>∃ P,o = .returned (.pointer (some ⟨P,0,none⟩))∧Below w.heap.size w w'∧Calls Tryz.prog 38 #[.pointer (some ⟨P,0,none⟩),fv] w' fun o w2=>o = .returned (.tuple #[])∧Below w.heap.size w w2∧Calls Tryz.prog 39 #[.pointer (some ⟨P,0,none⟩)] w2 (toldC w2 R):=by
 refine (openCore_gen (R:=fun P w'=>∃ (X:World) (G:Lg) (hd:Nat→Hd),Below w.heap.size w X∧lh X G C.ho 0 0 hd G.n2 (tagsD Unit C.ho.bx G.n2) w'∧P=G.P) ?_ w C s ?_).mono ?_
 ·rintro P W W' ⟨X,G,hd,h1,h2,h3⟩ hb
  exact⟨X,G,hd,h1,h2.below hb,h3⟩
 ·intro W hW
  refine (open_lh W C.ho s (h.below hW) hs hok.h hm).mono ?_
  rintro o w' ⟨G,hd,rfl,h1,_⟩
  exact⟨G.P,rfl,⟨W,G,hd,hW,h1,rfl⟩,h1.b⟩
 rintro o w' ⟨P,w5,rfl,rfl,⟨X,G,hd,h1,h2,rfl⟩,h3⟩
 have hb5:Below w5.heap.size w5 (w5.alloc (.cells (mcL G.P C).toArray 106)):=(Below.refl _ _).alloc (Nat.le_refl _) _
 have hmc:mc X w5.heap.size G C 0 0 hd G.n2 (tagsD Unit C.ho.bx G.n2) (w5.alloc (.cells (mcL G.P C).toArray 106)):=by
  have a1:=h2.p.lt
  have a2:=h2.m.lt
  have a3:=h2.hi
  have a4:=h2.x.hi
  have a5:=h2.b.size
  exact⟨blk.new w5 _ 106,h2.below hb5,⟨by omega,by omega,by omega,by omega,by omega,by omega,by omega⟩⟩
 refine⟨w5.heap.size,rfl,h3.trans (hb5.mono h3.size),?_⟩
 have hb6:=h3.trans (hb5.mono h3.size)
 refine (ha X w5.heap.size G 0 0 G.n2 _ h1 hb6 ⟨hd,_,hmc⟩).mono ?_
 rintro o w2 ⟨rfl,h4⟩
 refine⟨rfl,?_,h4.told⟩
 obtain⟨_,_,h5⟩:=h4
 exact h1.trans (h5.h.b.mono h1.size)
def okCs (C:Co) (bit:Int):Prop:=okCo C∧C.p≠1∧(bit=0∨bit=1)
set_option maxHeartbeats 8000000 in
set_option maxRecDepth 20000 in
theorem implCoreStep_any (w:World) (C:Co) (s:Sl) (k r:Int) (hb:bestR C.ho.bx r) (h:isHo w C.ho s) (hs:slSome s) (hn:C.ho.le 1048576) :
  Calls Tryz.prog 7 #[.agg (coL C s).toArray,.int .i64 k] w fun o w'=>(okCs C k∧toldC w (actC C (stpC C k r)) o w')∨(¬ okCs C k∧o = .returned (.agg [.int .i64 0,.int .i64 0,.int .i64 0,.bool false,.bool false,.bool false,.bool false,.bool false,.int .i64 0,.int .i64 0,.int .i64 0,.int .i64 0,.int .i64 0,.int .i64 0,.int .i64 0,.slice none 0 0,.slice none 0 0,.slice none 0 0,.slice none 0 0,.int .i64 0,.int .i64 0].toArray)∧Below w.heap.size w w'):=by
 have H0:Hid (itF w C s k (((w.alloc (.cells (coL C s).toArray 39)).alloc (.cells #[.int .i64 k] 3)).alloc (.cells #[.int .i64 0,.int .i64 0,.int .i64 0,.bool false,.bool false,.bool false,.bool false,.bool false,.int .i64 0,.int .i64 0,.int .i64 0,.int .i64 0,.int .i64 0,.int .i64 0,.int .i64 0,.slice none 0 0,.slice none 0 0,.slice none 0 0,.slice none 0 0,.int .i64 0,.int .i64 0] 39))):=itF.new w C s k
 have HLV:Hid (∀ W,Calls Tryz.prog 17 #[.int .i64 k] W fun o w'=>o = .returned (.bool (decide (k=0∨k=1)))∧W=w'):=fun W=>isLevel_any W k
 have y0:=H0.out.p.cell 0 (.int .i64 C.p) rfl
 have x0:=H0.out.x.cell 0 (.int .i64 k) rfl
 have hb0:=H0.out.b
 generalize hW0:(((w.alloc (.cells (coL C s).toArray 39)).alloc (.cells #[.int .i64 k] 3)).alloc (.cells #[.int .i64 0,.int .i64 0,.int .i64 0,.bool false,.bool false,.bool false,.bool false,.bool false,.int .i64 0,.int .i64 0,.int .i64 0,.int .i64 0,.int .i64 0,.int .i64 0,.int .i64 0,.slice none 0 0,.slice none 0 0,.slice none 0 0,.slice none 0 0,.int .i64 0,.int .i64 0] 39))=W0 at *
 have hmf:∀ (fn:Fn) (first cap:Array Value) (w:World),(Instr.makeFunc fn first cap).run Tryz.prog w = .ok (.func fn first cap) w:=fun _ _ _ _=>rfl
 obtain⟨p1,_,n1,f1⟩:=eqB C.p 1
 obtain⟨lv,elv⟩ : ∃ b,decide (k=0∨k=1)=b:=⟨_,rfl⟩
 have flv:Hid (lv=true↔(k=0∨k=1)):=by show _↔_;rw[← elv];simp
 rw[elv] at HLV
 have HCY:Hid (p1=false→Calls Tryz.prog 18 #[.agg (coL C s).toArray,.bool true,.func (.func 19) #[] #[.pointer (some ⟨w.heap.size+1,0,none⟩)]] W0 fun o w'=>(okCo C∧toldC W0 (actC C (stpC C k r)) o w')∨(¬ okCo C∧o = .returned (.agg [.int .i64 0,.int .i64 0,.int .i64 0,.bool false,.bool false,.bool false,.bool false,.bool false,.int .i64 0,.int .i64 0,.int .i64 0,.int .i64 0,.int .i64 0,.int .i64 0,.int .i64 0,.slice none 0 0,.slice none 0 0,.slice none 0 0,.slice none 0 0,.int .i64 0,.int .i64 0].toArray)∧Below W0.heap.size W0 w')):=fun e1=>
  changed_gen W0 C (actC C (stpC C k r)) s _ (h.below hb0) hn fun hok W hW=>open_any W C _ s _ (h.below (hb0.trans (hW.mono hb0.size))) hs hok hn fun w0 M G f1' f3' nm V _ hV hm=>act_stp hm (stpC C k r) (w.heap.size+1) k ((hV.cell (by exact Nat.lt_of_lt_of_le (World.block_lt_of_cell? W0 _ x0) hW.size)).trans ((hW.cell (by exact World.block_lt_of_cell? W0 _ x0)).trans x0)) fun X hX hy=>lit57 hX (w.heap.size+1) k r hy hok (fun e=>by have:=f1.out.2 e;rw[e1] at this;cases this) hb
 have HCN:Hid (Calls Tryz.prog 18 #[.agg (coL C s).toArray,.bool false,.func (.func 19) #[] #[.pointer (some ⟨w.heap.size+1,0,none⟩)]] W0 fun o w'=>o = .returned (.agg [.int .i64 0,.int .i64 0,.int .i64 0,.bool false,.bool false,.bool false,.bool false,.bool false,.int .i64 0,.int .i64 0,.int .i64 0,.int .i64 0,.int .i64 0,.int .i64 0,.int .i64 0,.slice none 0 0,.slice none 0 0,.slice none 0 0,.slice none 0 0,.int .i64 0,.int .i64 0].toArray)∧Below W0.heap.size W0 w'):=changed_no W0 C s _
 clear h hn hs hb hb0 elv
 go_enter Tryz.func7,Tryz.ntmps7
 go_upto_region 1 with fail
 try rw[hW0]
 go_cut [5] (fun x wx=>x = .bool (!p1 && lv)∧wx=W0)
 case first=>
  cases p1 <;> cases lv <;> (
   go_wp2_with (first | (go_at_call 17;refine (HLV.out _).mono ?_;rintro o w2 ⟨rfl,rfl⟩))
   go_meet
   case rel=>exact⟨rfl,rfl⟩)
 case rest=>
 obtain⟨rfl,hw⟩:=hcut
 have hw:=hw.symm
 subst hw
 obtain⟨c,ec⟩ : ∃ c,(!p1 && lv)=c:=⟨_,rfl⟩
 rw[ec]
 have HE:=hidX ec
 clear ec y0 x0 n1 HLV hW0
 have HZ:Hid (w.heap.size≤W0.heap.size∧w.heap.size+2<W0.heap.size):=⟨H0.out.b.size,H0.out.r.lt⟩
 cases c
 case false=>
  have HNO:Hid (¬ okCs C k):=fun x=>by
   have h1:=HE.out
   have h2:p1=false:=by cases p1;rfl;exact absurd (f1.out.1 rfl) x.2.1
   have h3:=flv.out.2 x.2.2
   rw[h2,h3] at h1
   cases h1
  go_wp2_with (first | (refine wpList_load_mid (P:=Tryz.prog) rfl 39 (.tmp 2) rfl w.heap.size 0 rfl (coL C s) _ H0.out.p.load Tryz.underlying39 rfl (szC41L C s) ?_))
  refine HCN.out.mono ?_
  rintro o w1 ⟨rfl,hb4⟩
  have H4:Hid (itF w C s k w1):=H0.out.below hb4
  clear hb4 HCN HCY
  go_wp2_with (first | (refine wpList_store_mid (P:=Tryz.prog) rfl 39 (.tmp 4) (.tmp 16) rfl (w.heap.size+2) 0 [.int .i64 0,.int .i64 0,.int .i64 0,.bool false,.bool false,.bool false,.bool false,.bool false,.int .i64 0,.int .i64 0,.int .i64 0,.int .i64 0,.int .i64 0,.int .i64 0,.int .i64 0,.slice none 0 0,.slice none 0 0,.slice none 0 0,.slice none 0 0,.int .i64 0,.int .i64 0].toArray rfl rfl (H4.out.r.there 0 21 (by simp[Z21])) szC41 (all_oneCell_toArray (by simp[Value.oneCell'])) ?_;generalize hW8:World.setCells w1 (w.heap.size+2) 0 _=w8;have HW8:Hid (_=w8):=hW8;clear hW8))
  have e8:=HW8.out
  have hF:blk w8 (w.heap.size+2) Z21 39:=by
   rw[← e8]
   exact H4.out.r.core rfl zCo zSl
  have hL:=run_loadVar_mid (P:=Tryz.prog) w8 (w.heap.size+2) 0 39 _ _ hF.load Tryz.underlying39 rfl (szC41L zCo zSl)
  refine bodyPost_ret (v:=.agg [.int .i64 0,.int .i64 0,.int .i64 0,.bool false,.bool false,.bool false,.bool false,.bool false,.int .i64 0,.int .i64 0,.int .i64 0,.int .i64 0,.int .i64 0,.int .i64 0,.int .i64 0,.slice none 0 0,.slice none 0 0,.slice none 0 0,.slice none 0 0,.int .i64 0,.int .i64 0].toArray) (results_cell Tryz.results7 _ w8 (w.heap.size+2) _ rfl hL) rfl ?_
  exact Or.inr ⟨HNO.out,rfl,by rw[← e8];exact setCells_below (by omega) 0 _ H4.out.b⟩
 case true=>
 have HW2:Hid (C.p≠1∧(k=0∨k=1)∧p1=false):=by
  have h1:=HE.out
  have h2:p1=false∧lv=true:=by cases p1 <;> cases lv <;> simp_all
  exact⟨fun e=>(by have:=f1.out.2 e;rw[h2.1] at this;cases this),flv.out.1 h2.2,h2.1⟩
 go_wp2_with (first | (refine wpList_load_mid (P:=Tryz.prog) rfl 39 (.tmp 2) rfl w.heap.size 0 rfl (coL C s) _ H0.out.p.load Tryz.underlying39 rfl (szC41L C s) ?_))
 refine (HCY.out HW2.out.2.2).mono ?_
 rintro o w1 (⟨hok,s4,rfl,q1,q2,q3,q4,hb4⟩|⟨hok,rfl,hb4⟩)
 ·have H4:Hid (itF w C s k w1):=H0.out.below hb4
  have HQ:Hid (St W0.heap.size w1 (fun W=>isHo W (actC C (stpC C k r)).ho s4.sl)∧whS W0.heap.size w1.heap.size w1 s4∧whD s4∧whE s4):=⟨q1,q2,q3,q4⟩
  have HOK:Hid (okCo C):=hok
  clear q1 q2 q3 q4 hb4 hok HCY HCN
  go_wp2_with (first
   | (refine wpList_store_mid (P:=Tryz.prog) rfl 39 (.tmp 4) (.tmp 16) rfl (w.heap.size+2) 0 (coL (actC C (stpC C k r)) s4.sl).toArray rfl rfl (H4.out.r.there 0 _ (by rw[List.size_toArray,coL_len];decide)) (szC41A _ _) (coL_one _ _) ?_;generalize hW8:World.setCells w1 (w.heap.size+2) 0 _=w8;have HW8:Hid (_=w8):=hW8;clear hW8))
  have e8:=HW8.out
  have hF:blk w8 (w.heap.size+2) (coL (actC C (stpC C k r)) s4.sl) 39:=by
   rw[← e8]
   exact H4.out.r.core rfl _ _
  have hL:=run_loadVar_mid (P:=Tryz.prog) w8 (w.heap.size+2) 0 39 _ _ hF.load Tryz.underlying39 rfl (szC41L _ _)
  refine bodyPost_ret (v:=.agg (coL (actC C (stpC C k r)) s4.sl).toArray) (results_cell Tryz.results7 _ w8 (w.heap.size+2) _ rfl hL) rfl ?_
  have oth:∀ x,x≠w.heap.size+2→w8.heap[x]?=w1.heap[x]?:=fun x hx=>by rw[← e8];exact setCells_other _ x hx _ _ _
  have hsz:w8.heap.size=w1.heap.size:=by rw[← e8];exact setCells_size ..
  have hp:=toldQ.put (w:=w) HZ.out.1 HZ.out.2 HQ.out.1 HQ.out.2.1 oth hsz
  exact Or.inl ⟨⟨HOK.out,HW2.out.1,HW2.out.2.1⟩,s4,rfl,hp.1,hp.2,HQ.out.2.2.1,HQ.out.2.2.2,by rw[← e8];exact setCells_below (by omega) 0 _ H4.out.b⟩
 ·have H4:Hid (itF w C s k w1):=H0.out.below hb4
  have HNO:Hid (¬ okCs C k):=fun x=>hok x.1
  clear hb4 hok HCY HCN
  go_wp2_with (first | (refine wpList_store_mid (P:=Tryz.prog) rfl 39 (.tmp 4) (.tmp 16) rfl (w.heap.size+2) 0 [.int .i64 0,.int .i64 0,.int .i64 0,.bool false,.bool false,.bool false,.bool false,.bool false,.int .i64 0,.int .i64 0,.int .i64 0,.int .i64 0,.int .i64 0,.int .i64 0,.int .i64 0,.slice none 0 0,.slice none 0 0,.slice none 0 0,.slice none 0 0,.int .i64 0,.int .i64 0].toArray rfl rfl (H4.out.r.there 0 21 (by simp[Z21])) szC41 (all_oneCell_toArray (by simp[Value.oneCell'])) ?_;generalize hW8:World.setCells w1 (w.heap.size+2) 0 _=w8;have HW8:Hid (_=w8):=hW8;clear hW8))
  have e8:=HW8.out
  have hF:blk w8 (w.heap.size+2) Z21 39:=by
   rw[← e8]
   exact H4.out.r.core rfl zCo zSl
  have hL:=run_loadVar_mid (P:=Tryz.prog) w8 (w.heap.size+2) 0 39 _ _ hF.load Tryz.underlying39 rfl (szC41L zCo zSl)
  refine bodyPost_ret (v:=.agg [.int .i64 0,.int .i64 0,.int .i64 0,.bool false,.bool false,.bool false,.bool false,.bool false,.int .i64 0,.int .i64 0,.int .i64 0,.int .i64 0,.int .i64 0,.int .i64 0,.int .i64 0,.slice none 0 0,.slice none 0 0,.slice none 0 0,.slice none 0 0,.int .i64 0,.int .i64 0].toArray) (results_cell Tryz.results7 _ w8 (w.heap.size+2) _ rfl hL) rfl ?_
  exact Or.inr ⟨HNO.out,rfl,by rw[← e8];exact setCells_below (by omega) 0 _ H4.out.b⟩
variable {w0 : World} {M : Nat} {G : Lg} {f1 f3 nm : Nat} {V : World} {C : Co} {W : World}
set_option maxHeartbeats 8000000 in
set_option maxRecDepth 20000 in
theorem drive_7 (h:mx w0 M G f1 f3 nm C W) (R:Nat) (hp:C.p=7) (hr:blk W R [.pointer (some ⟨M,0,none⟩),.string ⟨#[]⟩] 111) :
  Calls Tryz.prog 198 #[.pointer (some ⟨R,0,none⟩)] W fun o w'=>o = .returned (.int .i64 1)∧mr w0 M G f1 f3 nm W C w':=by
 have H0:=hidX (mr.new h)
 have y0:=hr.cell 0 (.pointer (some ⟨M,0,none⟩)) rfl
 have y3:=h.m.cell 3 (.int .i64 C.p) rfl
 rw[hp] at y3
 have HB:=hidX (begin_7 W M y3)
 have HL:=hidX (level_7 W M R C.tx y0 y3 (h.m.cell 9 (.bool C.tx) rfl))
 clear h hp hr y3
 go_enter Tryz.func198,Tryz.ntmps198
 go_wp2_with fail
 refine HB.out.mono ?_
 rintro o w1 ⟨rfl,rfl⟩
 go_wp2_with fail
 refine HL.out.mono ?_
 rintro o w2 ⟨rfl,rfl⟩
 go_wp2_with fail
 go_ret
 exact⟨rfl,H0.out⟩
set_option maxHeartbeats 8000000 in
set_option maxRecDepth 20000 in
theorem drive_0 (h:mx w0 M G f1 f3 nm C W) (R:Nat) (hp:C.p=0) (hok:okBxs C.ho.st C.ho.bx) (r:Int) (hr:bestR C.ho.bx r) (h0:decide (0≤r)=true) (hms:msB C=false)
  (hR:blk W R [.pointer (some ⟨M,0,none⟩),.string ⟨#[]⟩] 111) (hRM:R≠M∧R≠G.gb) (bx:List R8) (hbx:(takeHo C.ho r).bx=bx) (k:Nat) (hk:k<bx.length) (hz:∀ z,bsy bx z→z=(k:Int))
  (E:ByteArray) (hE:encZ bx[k].e bx[k].i bx[k].r bx[k].d bx[k].l.length bx[k].l=E) (hix:∀ w,(Instr.index 9 (.string E) (.int .i64 0)).run Tryz.prog w = .ok (.int .u8 48) w) :
  Calls Tryz.prog 198 #[.pointer (some ⟨R,0,none⟩)] W fun o w'=>o = .returned (.int .i64 0)∧mr w0 M G f1 f3 nm W (jnC C r) w':=by
 have y0:=hR.cell 0 (.pointer (some ⟨M,0,none⟩)) rfl
 have HB:=hidX ((mr.new h).begin_yes hp hok r hr h0 hms)
 have HJ:jnC C r = { C with p:=1,ct:=0,tx:=true,ho:=takeHo C.ho r }:=by unfold jnC;rw[h0,hms];rfl
 have HL:Hid (∀ X,mr w0 M G f1 f3 nm W (jnC C r) X→Calls Tryz.prog 200 #[.pointer (some ⟨R,0,none⟩)] X fun o w'=>o = .returned (.int .i64 0)∧mr w0 M G f1 f3 nm W (jnC C r) w'):=fun X hX=>by
  have hRX:blk X R [.pointer (some ⟨M,0,none⟩),.string ⟨#[]⟩] 111:=hR.kept (hX.k R hRM.1 hRM.2 hR.lt)
  have hm:=hX.x.m
  have hS:∀ Y,Below X.heap.size X Y→Calls Tryz.prog 62 #[.pointer (some ⟨G.P,0,none⟩)] Y fun o w'=>∃ ao m c,o = .returned (frV bx[k].e bx[k].i bx[k].r bx[k].d ao m c)∧isBytes w' ao m c bx[k].l∧Below Y.heap.size Y w':=fun Y hY=>by
   obtain⟨hs,D,hc⟩:=(hX.below hY).x
   have e:(jnC C r).ho.bx=bx:=by rw[HJ];exact hbx
   have hi:=hc.h.x.is hc.h.bd.nk
   rw[e] at hi
   exact sending_any Y G.P G.gb G.n2 G.kb bx k hk (hc.h.p.cell 5 _ rfl) hi hc.h.bd.m2 hz
  rw[HJ] at hm
  refine (level_send X M R G.P bx[k].e bx[k].i bx[k].r bx[k].d bx[k].l E hE hix (hRX.cell 0 _ rfl) (hRX.cell 1 _ rfl) (hm.cell 0 _ rfl) (hm.cell 3 _ rfl) (hm.cell 9 _ rfl) hS).mono ?_
  rintro o w' ⟨h1,h2⟩
  exact⟨h1,hX.below h2⟩
 clear h hp hok hr h0 hms hR hRM hbx hz hE hix HJ
 go_enter Tryz.func198,Tryz.ntmps198
 go_wp2_with fail
 refine HB.out.mono ?_
 rintro o w1 ⟨rfl,h1⟩
 have H1:=hidX h1
 clear h1 HB y0
 go_wp2_with fail
 refine (HL.out _ H1.out).mono ?_
 rintro o w2 ⟨rfl,h2⟩
 have H2:=hidX h2
 clear h2 HL H1
 go_wp2_with fail
 go_ret
 exact⟨rfl,H2.out⟩
set_option maxHeartbeats 8000000 in
set_option maxRecDepth 20000 in
theorem driven_any {C':Co} (h:mx w0 M G f1 f3 nm C W) (R:Nat) (lv:Int) (hR:blk W R [.pointer (some ⟨M,0,none⟩),.string ⟨#[]⟩] 111) (hRM:R≠M∧R≠G.gb)
  (hd:∀ X,Below W.heap.size W X→Calls Tryz.prog 198 #[.pointer (some ⟨R,0,none⟩)] X fun o w'=>o = .returned (.int .i64 lv)∧mr w0 M G f1 f3 nm X C' w') :
  Calls Tryz.prog 23 #[.iface 63 (.pointer (some ⟨R,0,none⟩))] W fun o w'=>(∃ s',o = .returned (.tuple #[.agg (acL C' s' ⟨#[]⟩).toArray,.int .i64 lv]))∧Below w0.heap.size w0 w':=by
 have HA:Hid (Below W.heap.size W (W.alloc (.cells Z57.toArray 74))∧blk (W.alloc (.cells Z57.toArray 74)) W.heap.size Z57 74):=⟨(Below.refl _ _).alloc (Nat.le_refl _) _,blk.new W _ 74⟩
 have HD:=hidX (hd _ HA.out.1)
 have hMl:=h.m.lt
 have hGl:G.gb<W.heap.size:=by obtain⟨_,_,hc⟩:=h;have:=hc.h.d.g;have:=hc.h.hi;omega
 have HL:Hid (M<W.heap.size∧G.gb<W.heap.size∧R<W.heap.size):=⟨hMl,hGl,hR.lt⟩
 have HRM:=hidX (And.intro hRM (hR.below HA.out.1))
 have HZ0:Hid (w0.heap.size≤W.heap.size):=by obtain⟨_,_,hc⟩:=h;exact hc.h.b.size
 obtain⟨V0,hV0⟩ : ∃ V0,V0=W.alloc (.cells Z57.toArray 74):=⟨_,rfl⟩
 rw[← hV0] at HA HD HRM
 have hm:=meth_drive V0 ⟨R,0,none⟩
 clear h hR hRM hd hMl hGl
 go_enter Tryz.func23,Tryz.ntmps23
 go_upto_region 1 with fail
 change Code.wp _ _ _ _ (W.alloc (.cells Z57.toArray 74))
 rw[← hV0]
 clear hV0
 go_wp2_with fail
 refine HD.out.mono ?_
 rintro o w1 ⟨rfl,h1⟩
 have H1:=hidX h1
 have HC:Hid (Calls Tryz.prog 43 #[.iface 63 (.pointer (some ⟨R,0,none⟩))] w1 fun o w'=>∃ s',o = .returned (.agg (acL C' s' ⟨#[]⟩).toArray)∧Below w1.heap.size w1 w'):=account_any w1 M R ⟨#[]⟩ C' (HRM.out.2.kept (h1.k R HRM.out.1.1 HRM.out.1.2 HRM.out.2.lt)) fun X hX=>((h1.x.below hX).told).mono fun o w' ⟨s4,e1,_,_,_,_,e2⟩=>⟨s4.sl,e1,e2⟩
 have HZ:Hid (blk w1 W.heap.size Z57 74):=HA.out.2.kept (h1.k W.heap.size (by have:=HL.out;omega) (by have:=HL.out;omega) HA.out.2.lt)
 clear h1 HD hm
 go_wp2_with fail
 refine HC.out.mono ?_
 rintro o w2 ⟨s2,rfl,hb2⟩
 have H2:=hidX (And.intro (H1.out.x.below hb2) (HZ.out.below hb2))
 clear hb2 HC HZ
 go_wp2_with (first
  | (refine wpList_store_mid (P:=Tryz.prog) rfl 74 _ _ rfl W.heap.size 0 (acL C' s2 ⟨#[]⟩).toArray rfl rfl (H2.out.2.there 0 _ (by rw[List.size_toArray,acL_len];decide)) sz74 (acL_one C' s2 ⟨#[]⟩) ?_;generalize hW8:World.setCells _ W.heap.size 0 _=w8;have HW8:Hid (_=w8):=hW8;clear hW8))
 have e8:=HW8.out
 have hF:blk w8 W.heap.size (acL C' s2 ⟨#[]⟩) 74:=by
  rw[← e8]
  have:=blk.put [] Z57 [] (acL C' s2 ⟨#[]⟩) (w:=w2) (b:=W.heap.size) (T:=74) (by simpa using H2.out.2) (by rw[acL_len];rfl)
  simpa using this
 have hL:=run_loadVar_mid (P:=Tryz.prog) w8 W.heap.size 0 74 _ _ hF.load Tryz.underlying74 rfl sz74
 refine bodyPost_ret (results_cell_tmp Tryz.results23 _ w8 W.heap.size _ rfl hL) rfl ?_
 refine⟨⟨s2,rfl⟩,?_⟩
 rw[← e8]
 obtain⟨_,_,hc⟩:=H2.out.1
 exact setCells_below HZ0.out 0 _ hc.h.b
def Z22:List Value:=[.int .i64 0,.int .i64 0,.int .i64 0,.bool false,.bool false,.bool false,.bool false,.bool false,.int .i64 0,.int .i64 0,.int .i64 0,.int .i64 0,.int .i64 0,.int .i64 0,.int .i64 0,.slice none 0 0,.slice none 0 0,.slice none 0 0,.slice none 0 0,.int .i64 0,.int .i64 0,.string ⟨#[]⟩]
theorem acL_ref {w:World} {b:Nat} {C:Co} {s:Sl} {hd:ByteArray} {T:TypeId} (h:blk w b (acL C s hd) T):w.rangeAt b 0 (rfL C s hd):=by
 have h':blk w b ([]++rfL C s hd++Z35) T:=h
 exact h'.loadAt [] (rfL C s hd) Z35
set_option maxHeartbeats 8000000 in
set_option maxRecDepth 20000 in
theorem refDrive_gen (w:World) (C C':Co) (s:Sl) (lv:Int) (h:isHo w C.ho s) (hs:slSome s) (hok:okCo C) (hm:C.ho.le 1048576) (hp:(C.p == 1)=false)
  (hd:∀ w0 M G nm W R,mx w0 M G 0 0 nm C W→blk W R [.pointer (some ⟨M,0,none⟩),.string ⟨#[]⟩] 111→R≠M∧R≠G.gb→Calls Tryz.prog 198 #[.pointer (some ⟨R,0,none⟩)] W fun o w'=>o = .returned (.int .i64 lv)∧mr w0 M G 0 0 nm W C' w') :
  Calls Tryz.prog 9 #[.agg (rfL C s ⟨#[]⟩).toArray] w fun o w'=>(∃ s',o = .returned (.tuple #[.agg (rfL C' s' ⟨#[]⟩).toArray,.int .i64 lv]))∧Below w.heap.size w w':=by
 have H0:Hid (blk ((w.alloc (.cells (rfL C s ⟨#[]⟩).toArray 43)).alloc (.cells Z22.toArray 43)) w.heap.size (rfL C s ⟨#[]⟩) 43∧blk ((w.alloc (.cells (rfL C s ⟨#[]⟩).toArray 43)).alloc (.cells Z22.toArray 43)) (w.heap.size+1) Z22 43∧Below w.heap.size w ((w.alloc (.cells (rfL C s ⟨#[]⟩).toArray 43)).alloc (.cells Z22.toArray 43))):=by
  refine⟨(blk.new w _ 43).alloc _,?_,((Below.refl _ _).alloc (Nat.le_refl _) _).alloc (by simp) _⟩
  have:=blk.new (w.alloc (.cells (rfL C s ⟨#[]⟩).toArray 43)) Z22 43
  simpa using this
 obtain⟨v0,hv0⟩ : ∃ v0,v0=(w.alloc (.cells (rfL C s ⟨#[]⟩).toArray 43)).alloc (.cells Z22.toArray 43):=⟨_,rfl⟩
 rw[← hv0] at H0
 have HO:=hidX (openRef_any v0 C s (h.below H0.out.2.2) hs hok hm hp)
 have HD:=hidX hd
 clear h hs hok hm hp hd
 go_enter Tryz.func9,Tryz.ntmps9
 go_upto_region 1 with fail
 change Code.wp _ _ _ _ ((w.alloc (.cells (rfL C s ⟨#[]⟩).toArray 43)).alloc (.cells Z22.toArray 43))
 rw[← hv0]
 clear hv0
 go_wp2_with (first | (refine wpList_load_mid (P:=Tryz.prog) rfl 43 _ rfl w.heap.size 0 rfl (rfL C s ⟨#[]⟩) _ H0.out.1.load Tryz.underlying43 rfl sz43 ?_))
 refine HO.out.mono ?_
 rintro o w1 ⟨R,rfl,w0,M,G,nm,h1,h2,h3,h4⟩
 have H1:Hid (Below w.heap.size w w0∧blk w0 (w.heap.size+1) Z22 43):=⟨H0.out.2.2.trans (h2.mono H0.out.2.2.size),H0.out.2.1.below h2⟩
 have HDR:Hid (Calls Tryz.prog 23 #[.iface 63 (.pointer (some ⟨R,0,none⟩))] w1 fun o w'=>(∃ s',o = .returned (.tuple #[.agg (acL C' s' ⟨#[]⟩).toArray,.int .i64 lv]))∧Below w0.heap.size w0 w'):=driven_any h1 R lv h3 h4 fun X hX=>HD.out w0 M G nm X R (h1.below hX) (h3.below hX) h4
 clear h1 h2 h3 h4 HO HD H0
 have hmk:(Instr.makeInterface 63 (.pointer (some ⟨R,0,none⟩))).run Tryz.prog w1 = .ok (.iface 63 (.pointer (some ⟨R,0,none⟩))) w1:=by kernel_rfl
 go_wp2_with fail
 refine HDR.out.mono ?_
 rintro o w2 ⟨⟨s2,rfl⟩,hb2⟩
 have H2:Hid (Below w.heap.size w w2∧blk w2 (w.heap.size+1) Z22 43):=⟨H1.out.1.trans (hb2.mono H1.out.1.size),H1.out.2.below hb2⟩
 clear hb2 HDR H1 hmk
 have H3:Hid (Below w.heap.size w (w2.alloc (.cells Z57.toArray 74))∧blk (w2.alloc (.cells Z57.toArray 74)) (w.heap.size+1) Z22 43∧blk (w2.alloc (.cells Z57.toArray 74)) w2.heap.size Z57 74∧w.heap.size+1<w2.heap.size):=⟨H2.out.1.alloc H2.out.1.size _,H2.out.2.alloc _,blk.new w2 _ 74,H2.out.2.lt⟩
 clear H2
 go_upto_region 5 with (first
  | (refine wpList_store_mid (P:=Tryz.prog) rfl 74 _ _ rfl w2.heap.size 0 (acL C' s2 ⟨#[]⟩).toArray rfl rfl (H3.out.2.2.1.there 0 _ (by rw[List.size_toArray,acL_len];decide)) sz74 (acL_one C' s2 ⟨#[]⟩) ?_;generalize hW4:World.setCells _ w2.heap.size 0 _=w4;have HW4:Hid (_=w4):=hW4;clear hW4))
 have H4:Hid (Below w.heap.size w w4∧blk w4 (w.heap.size+1) Z22 43∧blk w4 w2.heap.size (acL C' s2 ⟨#[]⟩) 74):=by
  have e:(w2.alloc (.cells Z57.toArray 74)).setCells w2.heap.size 0 (acL C' s2 ⟨#[]⟩)=w4:=HW4.out
  refine⟨?_,?_,?_⟩
  ·rw[← e];exact setCells_below (by have:=H3.out.2.2.2;omega) 0 _ H3.out.1
  ·rw[← e];exact H3.out.2.1.other (by have:=H3.out.2.2.2;omega) _ _
  ·rw[← e]
   have:=blk.put [] Z57 [] (acL C' s2 ⟨#[]⟩) (w:=w2.alloc (.cells Z57.toArray 74)) (b:=w2.heap.size) (T:=74) (by simpa using H3.out.2.2.1) (by rw[acL_len];rfl)
   simpa using this
 clear H3 HW4
 go_wp2_with (first
  | (refine wpList_load_mid (P:=Tryz.prog) rfl 43 _ rfl w2.heap.size 0 rfl (rfL C' s2 ⟨#[]⟩) _ (acL_ref H4.out.2.2) Tryz.underlying43 rfl sz43 ?_)
  | (refine wpList_store_mid (P:=Tryz.prog) rfl 43 _ _ rfl (w.heap.size+1) 0 (rfL C' s2 ⟨#[]⟩).toArray rfl rfl (H4.out.2.1.there 0 _ (by rw[List.size_toArray,rfL_len];decide)) sz43 (rfL_one C' s2 ⟨#[]⟩) ?_;generalize hW8:World.setCells _ (w.heap.size+1) 0 _=w8;have HW8:Hid (_=w8):=hW8;clear hW8))
 have e8:=HW8.out
 have hF:blk w8 (w.heap.size+1) (rfL C' s2 ⟨#[]⟩) 43:=by
  rw[← e8]
  have:=blk.put [] Z22 [] (rfL C' s2 ⟨#[]⟩) (w:=w4) (b:=w.heap.size+1) (T:=43) (by simpa using H4.out.2.1) (by rw[rfL_len];rfl)
  simpa using this
 have hL:=run_loadVar_mid (P:=Tryz.prog) w8 (w.heap.size+1) 0 43 _ _ hF.load Tryz.underlying43 rfl sz43
 refine bodyPost_ret (results_cell_tmp Tryz.results9 _ w8 (w.heap.size+1) _ rfl hL) rfl ?_
 refine⟨⟨s2,rfl⟩,?_⟩
 rw[← e8]
 exact setCells_below (by omega) 0 _ H4.out.1
end Go.Proofs.YtgkkcpgocbcbaaaGreat
