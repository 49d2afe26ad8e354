import Derived.Test.YtgkkcpgocbcbaaaGreatK38
import Derived.Test.YtgkkcpgocbcbaaaGreatK12
import Derived.Deep.RegionWith
namespace Go.Proofs.YtgkkcpgocbcbaaaGreat
open Go.RowKit
set_option linter.unusedVariables false
variable {w0 : World} {M : Nat} {G : Lg} {f1 f3 nm : Nat} {C : Co} {W : World}
def bkC (C:Co):Co:=⟨0,0,0,false,false,false,false,false,0,0,0,C.ho⟩
theorem mx.mom (h:mx w0 M G f1 f3 nm C W):mx w0 M G f1 f3 nm ⟨0,0,0,false,false,false,false,false,0,C.te,C.re,C.ho⟩ (W.setCells M 3 [.int .i64 0,.int .i64 0,.int .i64 0,.bool false,.bool false,.bool false,.bool false,.bool false,.int .i64 0]):=by
 obtain⟨hs,D,h⟩:=h
 refine⟨hs,D,?_,?_,h.o⟩
 ·have h':blk W M ([.pointer (some ⟨G.P,0,none⟩),.int .i64 C.te,.int .i64 C.re]++[.int .i64 C.p,.int .i64 C.ct,.int .i64 C.lv,.bool C.wk,.bool C.ov,.bool C.ow,.bool C.tx,.bool C.ak,.int .i64 C.rn]++(sgL++prL)) 106:=h.m
  exact blk.put [.pointer (some ⟨G.P,0,none⟩),.int .i64 C.te,.int .i64 C.re] [.int .i64 C.p,.int .i64 C.ct,.int .i64 C.lv,.bool C.wk,.bool C.ov,.bool C.ow,.bool C.tx,.bool C.ak,.int .i64 C.rn] (sgL++prL) [.int .i64 0,.int .i64 0,.int .i64 0,.bool false,.bool false,.bool false,.bool false,.bool false,.int .i64 0] h' rfl
 ·exact h.h.other M h.o (fun q hq=>setCells_other _ q hq _ _ _) (setCells_size ..) (setCells_below h.o.2.2.2.2.2.2 3 _ h.h.b)
theorem hidE {V:World} (e:W=V) (h:mx w0 M G f1 f3 nm C W):Hid (mx w0 M G f1 f3 nm C V):=by rw[← e];exact h
set_option maxHeartbeats 8000000 in
set_option maxRecDepth 20000 in
theorem comeBack_any (h:mx w0 M G f1 f3 nm C W) :
  Calls Tryz.prog 115 #[.pointer (some ⟨M,0,none⟩)] W fun o w'=>o = .returned (.tuple #[])∧mx w0 M G f1 f3 nm (bkC C) w':=by
 have H0:Hid (mx w0 M G f1 f3 nm C W):=h
 clear h
 go_enter Tryz.func115,Tryz.ntmps115
 go_upto_region 1 with (first
  | (refine wpList_store_mid (P:=Tryz.prog) rfl 100 (.tmp 5) (.tmp 3) rfl M 3 #[.int .i64 0,.int .i64 0,.int .i64 0,.bool false,.bool false,.bool false,.bool false,.bool false,.int .i64 0] rfl rfl (H0.out.m.there 3 9 (by rw[mcL_len];decide)) sz116 (all_oneCell_toArray (by simp[Value.oneCell'])) ?_;generalize hW4:World.setCells W M 3 _=w4;have H4:=hidE hW4 H0.out.mom;clear hW4))
 obtain⟨X,eX⟩ : ∃ X:Co,X=⟨0,0,0,false,false,false,false,false,0,C.te,C.re,C.ho⟩:=⟨_,rfl⟩
 rw[← eX] at H4
 have HB:Hid ({ X with te:=0,re:=0 }=bkC C):=by show _=_;rw[eX];rfl
 clear eX
 have y1:=H4.out.m.cell 1 (.int .i64 X.te) rfl
 have y2:=H4.out.m.cell 2 (.int .i64 X.re) rfl
 have z1:=H4.out.m.free 1
 have z2:=H4.out.m.free 2
 have H5:Hid (mx w0 M G f1 f3 nm { X with te:=0,re:=0 } (World.setCell (World.setCell w4 ⟨M,1,none⟩ (.int .i64 0)) ⟨M,2,none⟩ (.int .i64 0))):=((H4.out.set 1 (.int .i64 0) { X with te:=0 } rfl rfl).set 2 (.int .i64 0) { X with te:=0,re:=0 } rfl rfl)
 go_wp2_with fail
 first | go_end0 | (simp only[Exit.inBlock,Exit.then];refine bodyPost_ret (results_none rfl _ _ _) rfl ?_) | refine bodyPost_ret (results_none rfl _ _ _) rfl ?_
 exact⟨rfl,by rw[← HB.out];exact H5.out⟩
def ofC (C:Co) (bit:Int):Co:=if C.ak=true then (if bit=0 then { C with ct:=0 } else if C.ct+1=11 then (if C.rn+1=128 then bkC C else { C with ct:=0,rn:=C.rn+1 }) else { C with ct:=C.ct+1 }) else C
set_option maxHeartbeats 8000000 in
set_option maxRecDepth 20000 in
theorem offS_any (h:mx w0 M G f1 f3 nm C W) (bit:Int) (hc:0≤C.ct∧C.ct≤200) (hn:0≤C.rn∧C.rn<128) :
  Calls Tryz.prog 87 #[.pointer (some ⟨M,0,none⟩),.int .i64 bit] W fun o w'=>o = .returned (.tuple #[])∧mx w0 M G f1 f3 nm (ofC C bit) w':=by
 have H0:Hid (mx w0 M G f1 f3 nm C W):=h
 have y4:=h.m.cell 4 (.int .i64 C.ct) rfl
 have y10:=h.m.cell 10 (.bool C.ak) rfl
 have y11:=h.m.cell 11 (.int .i64 C.rn) rfl
 have z4:=h.m.free 4
 have z11:=h.m.free 11
 clear h
 have hw:=wrap_ct hc
 have hw2:=wrap_ct (n:=C.rn) (by omega)
 have er:(C.rn == 128)=false:=by simp;omega
 clear hc hn
 obtain⟨ak,eak⟩ : ∃ b,C.ak=b:=⟨_,rfl⟩
 rw[eak] at y10
 have fak:Hid (ak=true↔C.ak=true):=by show _↔_;rw[eak]
 clear eak
 obtain⟨b,e,_,fb⟩:=eqB bit 0
 obtain⟨c,e2,_,fc⟩:=eqB (C.ct+1) 11
 obtain⟨d,e3,_,fd⟩:=eqB (C.rn+1) 128
 have HBK:Hid (∀ X V,mx w0 M G f1 f3 nm X V→Calls Tryz.prog 115 #[.pointer (some ⟨M,0,none⟩)] V fun o w'=>o = .returned (.tuple #[])∧mx w0 M G f1 f3 nm (bkC X) w'):=fun X V hV=>comeBack_any hV
 go_enter Tryz.func87,Tryz.ntmps87
 cases ak
 ·have HR:Hid (ofC C bit=C):=by show _=_;unfold ofC;rw[if_neg (by simpa using fak.out)]
  have H3:Hid (mx w0 M G f1 f3 nm C W):=H0.out
  go_wp2_with fail
  first | go_end0 | (simp only[Exit.inBlock,Exit.then];refine bodyPost_ret (results_none rfl _ _ _) rfl ?_) | refine bodyPost_ret (results_none rfl _ _ _) rfl ?_
  exact⟨rfl,by rw[HR.out];exact H3.out⟩
 ·cases b
  ·cases c
   ·have HR:Hid (ofC C bit = { C with ct:=C.ct+1 }):=by show _=_;unfold ofC;rw[if_pos (by simpa using fak.out),if_neg (by simpa using fb.out),if_neg (by simpa using fc.out)]
    have H3:Hid (mx w0 M G f1 f3 nm { C with ct:=(C.ct+1) } (World.setCell W ⟨M,4,none⟩ (.int .i64 (C.ct+1)))):=(H0.out.set 4 (.int .i64 (C.ct+1)) { C with ct:=(C.ct+1) } rfl rfl)
    go_wp2_with fail
    first | go_end0 | (simp only[Exit.inBlock,Exit.then];refine bodyPost_ret (results_none rfl _ _ _) rfl ?_) | refine bodyPost_ret (results_none rfl _ _ _) rfl ?_
    exact⟨rfl,by rw[HR.out];exact H3.out⟩
   ·cases d
    ·have HR:Hid (ofC C bit = { C with ct:=0,rn:=C.rn+1 }):=by show _=_;unfold ofC;rw[if_pos (by simpa using fak.out),if_neg (by simpa using fb.out),if_pos (by simpa using fc.out),if_neg (by simpa using fd.out)]
     have H3:Hid (mx w0 M G f1 f3 nm { C with ct:=0,rn:=(C.rn+1) } (World.setCell (World.setCell (World.setCell W ⟨M,4,none⟩ (.int .i64 (C.ct+1))) ⟨M,4,none⟩ (.int .i64 0)) ⟨M,11,none⟩ (.int .i64 (C.rn+1)))):=(((H0.out.set 4 (.int .i64 (C.ct+1)) { C with ct:=(C.ct+1) } rfl rfl).set 4 (.int .i64 0) { C with ct:=0 } rfl rfl).set 11 (.int .i64 (C.rn+1)) { C with ct:=0,rn:=(C.rn+1) } rfl rfl)
     go_wp2_with fail
     first | go_end0 | (simp only[Exit.inBlock,Exit.then];refine bodyPost_ret (results_none rfl _ _ _) rfl ?_) | refine bodyPost_ret (results_none rfl _ _ _) rfl ?_
     exact⟨rfl,by rw[HR.out];exact H3.out⟩
    ·have HR:Hid (ofC C bit=bkC C):=by show _=_;unfold ofC;rw[if_pos (by simpa using fak.out),if_neg (by simpa using fb.out),if_pos (by simpa using fc.out),if_pos (by simpa using fd.out)]
     have H6:Hid (mx w0 M G f1 f3 nm { C with ct:=0,rn:=(C.rn+1) } (World.setCell (World.setCell (World.setCell W ⟨M,4,none⟩ (.int .i64 (C.ct+1))) ⟨M,4,none⟩ (.int .i64 0)) ⟨M,11,none⟩ (.int .i64 (C.rn+1)))):=(((H0.out.set 4 (.int .i64 (C.ct+1)) { C with ct:=(C.ct+1) } rfl rfl).set 4 (.int .i64 0) { C with ct:=0 } rfl rfl).set 11 (.int .i64 (C.rn+1)) { C with ct:=0,rn:=(C.rn+1) } rfl rfl)
     go_wp2_with fail
     refine (HBK.out _ _ H6.out).mono ?_
     rintro o w1 ⟨rfl,h1⟩
     have H1:=hidX h1
     clear h1
     go_wp2_with fail
     first | go_end0 | (simp only[Exit.inBlock,Exit.then];refine bodyPost_ret (results_none rfl _ _ _) rfl ?_) | refine bodyPost_ret (results_none rfl _ _ _) rfl ?_
     exact⟨rfl,by rw[HR.out];exact H1.out⟩
  ·have HR:Hid (ofC C bit = { C with ct:=0 }):=by show _=_;unfold ofC;rw[if_pos (by simpa using fak.out),if_pos (by simpa using fb.out)]
   have H3:Hid (mx w0 M G f1 f3 nm { C with ct:=0 } (World.setCell (World.setCell W ⟨M,4,none⟩ (.int .i64 (C.ct+1))) ⟨M,4,none⟩ (.int .i64 0))):=((H0.out.set 4 (.int .i64 (C.ct+1)) { C with ct:=(C.ct+1) } rfl rfl).set 4 (.int .i64 0) { C with ct:=0 } rfl rfl)
   go_wp2_with fail
   first | go_end0 | (simp only[Exit.inBlock,Exit.then];refine bodyPost_ret (results_none rfl _ _ _) rfl ?_) | refine bodyPost_ret (results_none rfl _ _ _) rfl ?_
   exact⟨rfl,by rw[HR.out];exact H3.out⟩
def msB (C:Co):Bool:=C.tx && (stZ C.te C.re == 1)
set_option maxHeartbeats 8000000 in
set_option maxRecDepth 20000 in
theorem mustS_any (h:mx w0 M G f1 f3 nm C W):Calls Tryz.prog 137 #[.pointer (some ⟨M,0,none⟩)] W fun o w'=>o = .returned (.bool (msB C))∧mx w0 M G f1 f3 nm C w'∧Below W.heap.size W w':=by
 have H0:Hid (mx w0 M G f1 f3 nm C W):=h
 have HS:Hid (Calls Tryz.prog 56 #[.pointer (some ⟨M,0,none⟩)] W fun o w'=>o = .returned (.int .i64 (stZ C.te C.re))∧mx w0 M G f1 f3 nm C w'∧Below W.heap.size W w'):=h.state
 have y9:=h.m.cell 9 (.bool C.tx) rfl
 clear h
 have HM:Hid (msB C=(C.tx && (stZ C.te C.re == 1))):=rfl
 generalize stZ C.te C.re=z at *
 obtain⟨tx,etx⟩ : ∃ b,C.tx=b:=⟨_,rfl⟩
 rw[etx] at y9 HM
 clear etx
 go_enter Tryz.func137,Tryz.ntmps137
 cases tx
 ·go_wp2_with fail
  go_ret
  exact⟨by rw[HM.out];rfl,H0.out,Below.refl _ _⟩
 ·go_wp2_with fail
  refine HS.out.mono ?_
  rintro o w1 ⟨rfl,h1,hb⟩
  have H1:=hidX (And.intro h1 hb)
  clear h1 hb
  go_wp2_with fail
  go_ret
  exact⟨by rw[HM.out];rfl,H1.out⟩
def lgC (C:Co):Co:=if msB C=true then { C with ct:=0,p:=6 } else { C with ct:=0,p:=0,tx:=false }
set_option maxHeartbeats 8000000 in
set_option maxRecDepth 20000 in
theorem leave_any (h:mx w0 M G f1 f3 nm C W) :
  Calls Tryz.prog 114 #[.pointer (some ⟨M,0,none⟩)] W fun o w'=>o = .returned (.tuple #[])∧mx w0 M G f1 f3 nm (lgC C) w':=by
 have H0:Hid (mx w0 M G f1 f3 nm C W):=h
 have H1:Hid (mx w0 M G f1 f3 nm { C with ct:=0 } (World.setCell W ⟨M,4,none⟩ (.int .i64 0))):=(H0.out.set 4 (.int .i64 0) { C with ct:=0 } rfl rfl)
 have y4:=h.m.cell 4 (.int .i64 C.ct) rfl
 have z4:=h.m.free 4
 clear h
 have HS:Hid (Calls Tryz.prog 137 #[.pointer (some ⟨M,0,none⟩)] (World.setCell W ⟨M,4,none⟩ (.int .i64 0)) fun o w'=>o = .returned (.bool (msB C))∧mx w0 M G f1 f3 nm { C with ct:=0 } w'∧Below ((World.setCell W ⟨M,4,none⟩ (.int .i64 0))).heap.size (World.setCell W ⟨M,4,none⟩ (.int .i64 0)) w'):=mustS_any H1.out
 obtain⟨b,e⟩ : ∃ b,msB C=b:=⟨_,rfl⟩
 have HL:Hid (lgC C=if b=true then { C with ct:=0,p:=6 } else { C with ct:=0,p:=0,tx:=false }):=by show _=_;unfold lgC;rw[e]
 rw[e] at HS
 clear e
 go_enter Tryz.func114,Tryz.ntmps114
 go_wp2_with fail
 refine HS.out.mono ?_
 rintro o w1 ⟨rfl,h2,_⟩
 have H2:=hidX h2
 have y3:=h2.m.cell 3 (.int .i64 C.p) rfl
 have y9:=h2.m.cell 9 (.bool C.tx) rfl
 have z3:=h2.m.free 3
 have z9:=h2.m.free 9
 clear h2 HS H1 y4 z4
 cases b
 ·have H3:Hid (mx w0 M G f1 f3 nm { C with ct:=0,p:=0,tx:=false } ((w1.setCell ⟨M,3,none⟩ (.int .i64 0)).setCell ⟨M,9,none⟩ (.bool false))):=(H2.out.set 3 (.int .i64 0) { C with ct:=0,p:=0 } rfl rfl).set 9 (.bool false) _ rfl rfl
  go_wp2_with fail
  first | go_end0 | (simp only[Exit.inBlock,Exit.then];refine bodyPost_ret (results_none rfl _ _ _) rfl ?_) | refine bodyPost_ret (results_none rfl _ _ _) rfl ?_
  exact⟨rfl,by rw[HL.out];exact H3.out⟩
 ·have H3:Hid (mx w0 M G f1 f3 nm { C with ct:=0,p:=6 } (w1.setCell ⟨M,3,none⟩ (.int .i64 6))):=H2.out.set 3 (.int .i64 6) _ rfl rfl
  go_wp2_with fail
  first | go_end0 | (simp only[Exit.inBlock,Exit.then];refine bodyPost_ret (results_none rfl _ _ _) rfl ?_) | refine bodyPost_ret (results_none rfl _ _ _) rfl ?_
  exact⟨rfl,by rw[HL.out];exact H3.out⟩
theorem mx.best (h:mx w0 M G f1 f3 nm C W) (hok:okBxs C.ho.st C.ho.bx) (r:Int) (hr:bestR C.ho.bx r):Calls Tryz.prog 136 #[.pointer (some ⟨G.P,0,none⟩)] W fun o w'=>o = .returned (.int .i64 r)∧mx w0 M G f1 f3 nm C w':=by
 obtain⟨hs,D,h⟩:=h
 refine (best_any W G.P _ G.n2 G.kb C.ho.bx C.ho.st (h.h.p.cell 5 _ rfl) (h.h.x.is h.h.bd.nk) h.h.bd.m2 hok).mono ?_
 rintro o w' ⟨r',rfl,h1,h2⟩
 exact⟨by rw[bestR_one h1 hr],hs,D,h.below h2⟩
theorem mx.send (h:mx w0 M G f1 f3 nm C W) (i:Int):Calls Tryz.prog 138 #[.pointer (some ⟨G.P,0,none⟩),.int .i64 i] W fun o w'=>o = .returned (.tuple #[])∧mx w0 M G f1 f3 nm { C with ho:=takeHo C.ho i } w':=by
 obtain⟨hs,D,h⟩:=h
 refine (send_any W G.P G.gb G.n2 G.kb C.ho.bx i (h.h.p.cell 5 _ rfl) (h.h.x.is h.h.bd.nk) h.h.x.row h.h.bd.m2).mono ?_
 rintro o w' ⟨rfl,W1,hb,⟨rfl,e⟩|⟨k,hk,rfl,e,_⟩⟩
 ·refine⟨rfl,hs,D,?_⟩
  rw[show takeHo C.ho i=C.ho by unfold takeHo;rw[e]]
  exact h.below hb
 ·have h1:=h.below hb
  refine⟨rfl,hs,D,?_,?_,h.o⟩
  ·exact h1.m.setOther h.o.2.2.2.1 _ _
  ·rw[show takeHo C.ho i=stHo C.ho k 2 by unfold takeHo;rw[e,stHo_yes hk]]
   exact h1.h.state k hk 2
def jnC (C:Co) (r:Int):Co:=if (decide (0≤r) && !msB C)=true then { C with p:=1,ct:=0,tx:=true,ho:=takeHo C.ho r } else { C with p:=1,ct:=0,tx:=false }
variable {w0 : World} {M : Nat} {G : Lg} {f1 f3 nm : Nat} {V : World} {C : Co} {W : World}
structure mr (w0:World) (M:Nat) (G:Lg) (f1 f3 nm:Nat) (V:World) (C:Co) (W:World):Prop where
 x:mx w0 M G f1 f3 nm C W
 k:∀ q,q≠M→q≠G.gb→q<V.heap.size→W.heap[q]?=V.heap[q]?
 z:V.heap.size≤W.heap.size
theorem mr.new (h:mx w0 M G f1 f3 nm C W):mr w0 M G f1 f3 nm W C W:=⟨h,fun _ _ _ _=>rfl,Nat.le_refl _⟩
theorem mr.below (h:mr w0 M G f1 f3 nm V C W) {W':World} (hb:Below W.heap.size W W'):mr w0 M G f1 f3 nm V C W':=⟨h.x.below hb,fun q h1 h2 h3=>(hb.block q (Nat.lt_of_lt_of_le h3 h.z)).trans (h.k q h1 h2 h3),Nat.le_trans h.z hb.size⟩
theorem mr.set (h:mr w0 M G f1 f3 nm V C W) (k:Nat) (v:Value) (C':Co) (e:(mcL G.P C).set k v=mcL G.P C') (eh:C'.ho=C.ho):mr w0 M G f1 f3 nm V C' (W.setCell ⟨M,k,none⟩ v):=⟨h.x.set k v C' e eh,fun q h1 h2 h3=>(heap_setCell_other W ⟨M,k,none⟩ q _ h1).trans (h.k q h1 h2 h3),by simpa using h.z⟩
theorem mr.best (h:mr w0 M G f1 f3 nm V C W) (hok:okBxs C.ho.st C.ho.bx) (r:Int) (hr:bestR C.ho.bx r):Calls Tryz.prog 136 #[.pointer (some ⟨G.P,0,none⟩)] W fun o w'=>o = .returned (.int .i64 r)∧mr w0 M G f1 f3 nm V C w':=by
 obtain⟨hs,D,hx⟩:=h.x
 refine (best_any W G.P _ G.n2 G.kb C.ho.bx C.ho.st (hx.h.p.cell 5 _ rfl) (hx.h.x.is hx.h.bd.nk) hx.h.bd.m2 hok).mono ?_
 rintro o w' ⟨r',rfl,h1,h2⟩
 exact⟨by rw[bestR_one h1 hr],h.below h2⟩
theorem mr.send (h:mr w0 M G f1 f3 nm V C W) (i:Int):Calls Tryz.prog 138 #[.pointer (some ⟨G.P,0,none⟩),.int .i64 i] W fun o w'=>o = .returned (.tuple #[])∧mr w0 M G f1 f3 nm V { C with ho:=takeHo C.ho i } w':=by
 obtain⟨hs,D,hx⟩:=h.x
 refine (send_any W G.P G.gb G.n2 G.kb C.ho.bx i (hx.h.p.cell 5 _ rfl) (hx.h.x.is hx.h.bd.nk) hx.h.x.row hx.h.bd.m2).mono ?_
 rintro o w' ⟨rfl,W1,hb,⟨rfl,e⟩|⟨k,hk,rfl,e,_⟩⟩
 ·refine⟨rfl,?_⟩
  rw[show takeHo C.ho i=C.ho by unfold takeHo;rw[e]]
  exact h.below hb
 ·have h1:=hx.below hb
  refine⟨rfl,⟨hs,D,?_,?_,hx.o⟩,fun q h1 h2 h3=>(heap_setCell_other W1 ⟨G.gb,k*8,none⟩ q _ h2).trans ((h.below hb).k q h1 h2 h3),by simpa using (h.below hb).z⟩
  ·exact h1.m.setOther hx.o.2.2.2.1 _ _
  ·rw[show takeHo C.ho i=stHo C.ho k 2 by unfold takeHo;rw[e,stHo_yes hk]]
   exact h1.h.state k hk 2
theorem mr.mustS (h:mr w0 M G f1 f3 nm V C W):Calls Tryz.prog 137 #[.pointer (some ⟨M,0,none⟩)] W fun o w'=>o = .returned (.bool (msB C))∧mr w0 M G f1 f3 nm V C w':=(mustS_any h.x).mono fun o w' ⟨h1,_,h3⟩=>⟨h1,h.below h3⟩
set_option maxHeartbeats 8000000 in
set_option maxRecDepth 20000 in
theorem mr.join (h:mr w0 M G f1 f3 nm V C W) (hok:okBxs C.ho.st C.ho.bx) (r:Int) (hr:bestR C.ho.bx r) (h0:decide (0≤r)=true) (hms:msB C=false) :
  Calls Tryz.prog 113 #[.pointer (some ⟨M,0,none⟩)] W fun o w'=>o = .returned (.tuple #[])∧mr w0 M G f1 f3 nm V (jnC C r) w':=by
 have HB:Hid (Calls Tryz.prog 136 #[.pointer (some ⟨G.P,0,none⟩)] W fun o w'=>o = .returned (.int .i64 r)∧mr w0 M G f1 f3 nm V C w'):=h.best hok r hr
 have y0:=h.x.m.cell 0 (.pointer (some ⟨G.P,0,none⟩)) rfl
 have HMS:Hid (∀ X,mr w0 M G f1 f3 nm V C X→Calls Tryz.prog 137 #[.pointer (some ⟨M,0,none⟩)] X fun o w'=>o = .returned (.bool false)∧mr w0 M G f1 f3 nm V C w'):=fun X hX=>by rw[← hms];exact hX.mustS
 have HSD:Hid (∀ Y X,mr w0 M G f1 f3 nm V X Y→Calls Tryz.prog 138 #[.pointer (some ⟨G.P,0,none⟩),.int .i64 r] Y fun o w'=>o = .returned (.tuple #[])∧mr w0 M G f1 f3 nm V { X with ho:=takeHo X.ho r } w'):=fun Y X hY=>hY.send r
 have HJ:Hid (jnC C r = { C with p:=1,ct:=0,tx:=true,ho:=takeHo C.ho r }):=by show _=_;unfold jnC;rw[h0,hms];rfl
 clear h hok hr hms
 go_enter Tryz.func113,Tryz.ntmps113
 go_wp2_with fail
 refine HB.out.mono ?_
 rintro o w1 ⟨rfl,h1⟩
 have H1:=hidX h1
 clear h1 HB y0
 go_wp2_with fail
 refine (HMS.out _ H1.out).mono ?_
 rintro o w2 ⟨rfl,h2⟩
 have H2:=hidX h2
 have y3:=h2.x.m.cell 3 (.int .i64 C.p) rfl
 have y4:=h2.x.m.cell 4 (.int .i64 C.ct) rfl
 have y9:=h2.x.m.cell 9 (.bool C.tx) rfl
 have z3:=h2.x.m.free 3
 have z4:=h2.x.m.free 4
 have z9:=h2.x.m.free 9
 have x0:=h2.x.m.cell 0 (.pointer (some ⟨G.P,0,none⟩)) rfl
 clear h2 HMS H1
 have H3:Hid (mr w0 M G f1 f3 nm V { C with p:=1,ct:=0,tx:=true } (World.setCell (World.setCell (World.setCell w2 ⟨M,3,none⟩ (.int .i64 1)) ⟨M,4,none⟩ (.int .i64 0)) ⟨M,9,none⟩ (.bool true))):=(((H2.out.set 3 (.int .i64 1) { C with p:=1 } rfl rfl).set 4 (.int .i64 0) { C with p:=1,ct:=0 } rfl rfl).set 9 (.bool true) { C with p:=1,ct:=0,tx:=true } rfl rfl)
 go_wp2_with fail
 refine (HSD.out _ _ H3.out).mono ?_
 rintro o w5 ⟨rfl,h5⟩
 have H5:=hidX h5
 clear h5
 go_wp2_with fail
 first | go_end0 | (simp only[Exit.inBlock,Exit.then];refine bodyPost_ret (results_none rfl _ _ _) rfl ?_) | refine bodyPost_ret (results_none rfl _ _ _) rfl ?_
 exact⟨rfl,by rw[HJ.out];exact H5.out⟩
set_option maxHeartbeats 8000000 in
set_option maxRecDepth 20000 in
theorem mr.begin_yes (h:mr w0 M G f1 f3 nm V C W) (hp:C.p=0) (hok:okBxs C.ho.st C.ho.bx) (r:Int) (hr:bestR C.ho.bx r) (h0:decide (0≤r)=true) (hms:msB C=false) :
  Calls Tryz.prog 199 #[.pointer (some ⟨M,0,none⟩)] W fun o w'=>o = .returned (.bool true)∧mr w0 M G f1 f3 nm V (jnC C r) w':=by
 have HB:Hid (Calls Tryz.prog 136 #[.pointer (some ⟨G.P,0,none⟩)] W fun o w'=>o = .returned (.int .i64 r)∧mr w0 M G f1 f3 nm V C w'):=h.best hok r hr
 have HJ:Hid (∀ X,mr w0 M G f1 f3 nm V C X→Calls Tryz.prog 113 #[.pointer (some ⟨M,0,none⟩)] X fun o w'=>o = .returned (.tuple #[])∧mr w0 M G f1 f3 nm V (jnC C r) w'):=fun X hX=>hX.join hok r hr h0 hms
 have y0:=h.x.m.cell 0 (.pointer (some ⟨G.P,0,none⟩)) rfl
 have y3:=h.x.m.cell 3 (.int .i64 C.p) rfl
 rw[hp] at y3
 clear h hok hr hms hp
 go_enter Tryz.func199,Tryz.ntmps199
 go_wp2_with fail
 refine HB.out.mono ?_
 rintro o w1 ⟨rfl,h1⟩
 have H1:=hidX h1
 clear h1 HB y0 y3
 go_wp2_with fail
 refine (HJ.out _ H1.out).mono ?_
 rintro o w2 ⟨rfl,h2⟩
 have H2:=hidX h2
 clear h2 HJ H1
 go_wp2_with fail
 go_ret
 exact⟨rfl,H2.out⟩
set_option maxHeartbeats 8000000 in
set_option maxRecDepth 20000 in
theorem begin_7 (W:World) (M:Nat) (y3:W.cell? ⟨M,3,none⟩=some (.int .i64 7)) :
  Calls Tryz.prog 199 #[.pointer (some ⟨M,0,none⟩)] W fun o w'=>o = .returned (.bool false)∧w'=W:=by
 go_enter Tryz.func199,Tryz.ntmps199
 go_wp2_with fail
 go_ret
 exact⟨rfl,rfl⟩
variable {w0 : World} {M : Nat} {G : Lg} {f1 f3 nm : Nat} {C : Co} {W : World}
set_option maxHeartbeats 8000000 in
set_option maxRecDepth 20000 in
theorem join_any (h:mx w0 M G f1 f3 nm C W) (hok:okBxs C.ho.st C.ho.bx) (r:Int) (hr:bestR C.ho.bx r) :
  Calls Tryz.prog 113 #[.pointer (some ⟨M,0,none⟩)] W fun o w'=>o = .returned (.tuple #[])∧mx w0 M G f1 f3 nm (jnC C r) w':=by
 have HB:Hid (Calls Tryz.prog 136 #[.pointer (some ⟨G.P,0,none⟩)] W fun o w'=>o = .returned (.int .i64 r)∧mx w0 M G f1 f3 nm C w'):=h.best hok r hr
 have y0:=h.m.cell 0 (.pointer (some ⟨G.P,0,none⟩)) rfl
 have HMS:Hid (∀ V,mx w0 M G f1 f3 nm C V→Calls Tryz.prog 137 #[.pointer (some ⟨M,0,none⟩)] V fun o w'=>o = .returned (.bool (msB C))∧mx w0 M G f1 f3 nm C w'∧Below V.heap.size V w'):=fun V hV=>mustS_any hV
 have HSD:Hid (∀ V X,mx w0 M G f1 f3 nm X V→Calls Tryz.prog 138 #[.pointer (some ⟨G.P,0,none⟩),.int .i64 r] V fun o w'=>o = .returned (.tuple #[])∧mx w0 M G f1 f3 nm { X with ho:=takeHo X.ho r } w'):=fun V X hV=>hV.send r
 clear h hok hr
 obtain⟨b,eb⟩ : ∃ b,decide (0≤r)=b:=⟨_,rfl⟩
 obtain⟨m,em⟩ : ∃ b,msB C=b:=⟨_,rfl⟩
 have HJ:Hid (jnC C r=if (b && !m)=true then { C with p:=1,ct:=0,tx:=true,ho:=takeHo C.ho r } else { C with p:=1,ct:=0,tx:=false }):=by show _=_;unfold jnC;rw[eb,em]
 rw[em] at HMS
 clear em
 go_enter Tryz.func113,Tryz.ntmps113
 go_wp2_with fail
 refine HB.out.mono ?_
 rintro o w1 ⟨rfl,h1⟩
 have H1:=hidX h1
 have y3:=h1.m.cell 3 (.int .i64 C.p) rfl
 have y4:=h1.m.cell 4 (.int .i64 C.ct) rfl
 have y9:=h1.m.cell 9 (.bool C.tx) rfl
 have z3:=h1.m.free 3
 have z4:=h1.m.free 4
 have z9:=h1.m.free 9
 have x0:=h1.m.cell 0 (.pointer (some ⟨G.P,0,none⟩)) rfl
 clear h1 HB y0
 cases b
 ·have H3:Hid (mx w0 M G f1 f3 nm { C with p:=1,ct:=0,tx:=false } (World.setCell (World.setCell (World.setCell w1 ⟨M,3,none⟩ (.int .i64 1)) ⟨M,4,none⟩ (.int .i64 0)) ⟨M,9,none⟩ (.bool false))):=(((H1.out.set 3 (.int .i64 1) { C with p:=1 } rfl rfl).set 4 (.int .i64 0) { C with p:=1,ct:=0 } rfl rfl).set 9 (.bool false) { C with p:=1,ct:=0,tx:=false } rfl rfl)
  go_wp2_with fail
  first | go_end0 | (simp only[Exit.inBlock,Exit.then];refine bodyPost_ret (results_none rfl _ _ _) rfl ?_) | refine bodyPost_ret (results_none rfl _ _ _) rfl ?_
  exact⟨rfl,by rw[HJ.out];exact H3.out⟩
 ·go_wp2_with fail
  refine (HMS.out _ H1.out).mono ?_
  rintro o w2 ⟨rfl,h2,_⟩
  have H2:=hidX h2
  clear y3 y4 y9 z3 z4 z9 x0
  have y3:=h2.m.cell 3 (.int .i64 C.p) rfl
  have y4:=h2.m.cell 4 (.int .i64 C.ct) rfl
  have y9:=h2.m.cell 9 (.bool C.tx) rfl
  have z3:=h2.m.free 3
  have z4:=h2.m.free 4
  have z9:=h2.m.free 9
  have x0:=h2.m.cell 0 (.pointer (some ⟨G.P,0,none⟩)) rfl
  clear h2 HMS
  cases m
  ·have H3:Hid (mx w0 M G f1 f3 nm { C with p:=1,ct:=0,tx:=true } (World.setCell (World.setCell (World.setCell w2 ⟨M,3,none⟩ (.int .i64 1)) ⟨M,4,none⟩ (.int .i64 0)) ⟨M,9,none⟩ (.bool true))):=(((H2.out.set 3 (.int .i64 1) { C with p:=1 } rfl rfl).set 4 (.int .i64 0) { C with p:=1,ct:=0 } rfl rfl).set 9 (.bool true) { C with p:=1,ct:=0,tx:=true } rfl rfl)
   go_wp2_with fail
   refine (HSD.out _ _ H3.out).mono ?_
   rintro o w5 ⟨rfl,h5⟩
   have H5:=hidX h5
   clear h5
   go_wp2_with fail
   first | go_end0 | (simp only[Exit.inBlock,Exit.then];refine bodyPost_ret (results_none rfl _ _ _) rfl ?_) | refine bodyPost_ret (results_none rfl _ _ _) rfl ?_
   exact⟨rfl,by rw[HJ.out];exact H5.out⟩
  ·have H3:Hid (mx w0 M G f1 f3 nm { C with p:=1,ct:=0,tx:=false } (World.setCell (World.setCell (World.setCell w2 ⟨M,3,none⟩ (.int .i64 1)) ⟨M,4,none⟩ (.int .i64 0)) ⟨M,9,none⟩ (.bool false))):=(((H2.out.set 3 (.int .i64 1) { C with p:=1 } rfl rfl).set 4 (.int .i64 0) { C with p:=1,ct:=0 } rfl rfl).set 9 (.bool false) { C with p:=1,ct:=0,tx:=false } rfl rfl)
   go_wp2_with fail
   first | go_end0 | (simp only[Exit.inBlock,Exit.then];refine bodyPost_ret (results_none rfl _ _ _) rfl ?_) | refine bodyPost_ret (results_none rfl _ _ _) rfl ?_
   exact⟨rfl,by rw[HJ.out];exact H3.out⟩
def gpC (C:Co) (bit r:Int):Co:=if bit=0 then (if C.ct<2 then ovC C else jnC C r) else if C.ct+1=3 then lgC { C with ct:=C.ct+1 } else { C with ct:=C.ct+1 }
set_option maxHeartbeats 8000000 in
set_option maxRecDepth 20000 in
theorem gap_any (h:mx w0 M G f1 f3 nm C W) (bit:Int) (hc:0≤C.ct∧C.ct≤200) (hok:okBxs C.ho.st C.ho.bx) (r:Int) (hr:bestR C.ho.bx r) :
  Calls Tryz.prog 85 #[.pointer (some ⟨M,0,none⟩),.int .i64 bit] W fun o w'=>o = .returned (.tuple #[])∧mx w0 M G f1 f3 nm (gpC C bit r) w':=by
 have H0:Hid (mx w0 M G f1 f3 nm C W):=h
 have HJN:Hid (Calls Tryz.prog 113 #[.pointer (some ⟨M,0,none⟩)] W fun o w'=>o = .returned (.tuple #[])∧mx w0 M G f1 f3 nm (jnC C r) w'):=join_any h hok r hr
 have y4:=h.m.cell 4 (.int .i64 C.ct) rfl
 have z4:=h.m.free 4
 clear h hok hr
 have hw:=wrap_ct hc
 clear hc
 have H3:Hid (mx w0 M G f1 f3 nm { C with ct:=(C.ct+1) } (World.setCell W ⟨M,4,none⟩ (.int .i64 (C.ct+1)))):=(H0.out.set 4 (.int .i64 (C.ct+1)) { C with ct:=(C.ct+1) } rfl rfl)
 obtain⟨b,e,_,fb⟩:=eqB bit 0
 obtain⟨c,e2,fc⟩:=ltB C.ct 2
 obtain⟨d,e3,_,fd⟩:=eqB (C.ct+1) 3
 go_enter Tryz.func85,Tryz.ntmps85
 cases b
 ·cases d
  ·have HR:Hid (gpC C bit r = { C with ct:=C.ct+1 }):=by show _=_;unfold gpC;rw[if_neg (by simpa using fb.out),if_neg (by simpa using fd.out)]
   go_wp2_with fail
   first | go_end0 | (simp only[Exit.inBlock,Exit.then];refine bodyPost_ret (results_none rfl _ _ _) rfl ?_) | refine bodyPost_ret (results_none rfl _ _ _) rfl ?_
   exact⟨rfl,by rw[HR.out];exact H3.out⟩
  ·have HR:Hid (gpC C bit r=lgC { C with ct:=C.ct+1 }):=by show _=_;unfold gpC;rw[if_neg (by simpa using fb.out),if_pos (by simpa using fd.out)]
   go_wp2_with fail
   refine (leave_any H3.out).mono ?_
   rintro o w1 ⟨rfl,h1⟩
   have H1:=hidX h1
   clear h1
   go_wp2_with fail
   first | go_end0 | (simp only[Exit.inBlock,Exit.then];refine bodyPost_ret (results_none rfl _ _ _) rfl ?_) | refine bodyPost_ret (results_none rfl _ _ _) rfl ?_
   exact⟨rfl,by rw[HR.out];exact H1.out⟩
 ·cases c
  ·have HR:Hid (gpC C bit r=jnC C r):=by show _=_;unfold gpC;rw[if_pos (by simpa using fb.out),if_neg (by simpa using fc.out)]
   go_wp2_with fail
   refine (HJN.out).mono ?_
   rintro o w1 ⟨rfl,h1⟩
   have H1:=hidX h1
   clear h1
   go_wp2_with fail
   first | go_end0 | (simp only[Exit.inBlock,Exit.then];refine bodyPost_ret (results_none rfl _ _ _) rfl ?_) | refine bodyPost_ret (results_none rfl _ _ _) rfl ?_
   exact⟨rfl,by rw[HR.out];exact H1.out⟩
  ·have HR:Hid (gpC C bit r=ovC C):=by show _=_;unfold gpC;rw[if_pos (by simpa using fb.out),if_pos (by simpa using fc.out)]
   go_wp2_with fail
   refine (overload_any H0.out).mono ?_
   rintro o w1 ⟨rfl,h1⟩
   have H1:=hidX h1
   clear h1
   go_wp2_with fail
   first | go_end0 | (simp only[Exit.inBlock,Exit.then];refine bodyPost_ret (results_none rfl _ _ _) rfl ?_) | refine bodyPost_ret (results_none rfl _ _ _) rfl ?_
   exact⟨rfl,by rw[HR.out];exact H1.out⟩
def stpC (C:Co) (bit r:Int):Co:=if C.p=0 then idC C bit else if C.p=2 then flC C bit else if C.p=3 then waC C bit else if C.p=4 then dlC C bit else if C.p=5 then gpC C bit r else if C.p=6 then suC C bit else if C.p=7 then ofC C bit else C
variable {w0 : World} {M : Nat} {G : Lg} {f1 f3 nm : Nat} {C : Co} {W : World}
set_option maxHeartbeats 8000000 in
set_option maxRecDepth 20000 in
theorem step_0 (h:mx w0 M G f1 f3 nm C W) (bit:Int) (A:Co) (e:C.p=0) (hc:∀ X,mx w0 M G f1 f3 nm C X→Calls Tryz.prog 80 #[.pointer (some ⟨M,0,none⟩),.int .i64 bit] X fun o w'=>o = .returned (.tuple #[])∧mx w0 M G f1 f3 nm A w') :
  Calls Tryz.prog 20 #[.pointer (some ⟨M,0,none⟩),.int .i64 bit] W fun o w'=>o = .returned (.tuple #[])∧mx w0 M G f1 f3 nm A w':=by
 have HC:=hidX (hc _ (h.below (Below.refl _ _).drew))
 have y3:=h.m.cell 3 (.int .i64 C.p) rfl
 have y24:=h.m.cell 24 (.func (.func 80) #[] #[]) rfl
 rw[e] at y3
 clear h hc e
 go_enter Tryz.func20,Tryz.ntmps20
 go_wp2_with fail
 go_region_with (go_at_call 80;refine HC.out.mono ?_;rintro o w1 ⟨rfl,h1⟩;have H1:=hidX h1;clear h1)
 all_goals (
  go_wp2_with fail
  first | go_end0 | (simp only[Exit.inBlock,Exit.then];refine bodyPost_ret (results_none rfl _ _ _) rfl ?_) | refine bodyPost_ret (results_none rfl _ _ _) rfl ?_
  exact⟨rfl,H1.out⟩)
set_option maxHeartbeats 8000000 in
set_option maxRecDepth 20000 in
theorem step_2 (h:mx w0 M G f1 f3 nm C W) (bit:Int) (A:Co) (e:C.p=2) (hc:∀ X,mx w0 M G f1 f3 nm C X→Calls Tryz.prog 82 #[.pointer (some ⟨M,0,none⟩),.int .i64 bit] X fun o w'=>o = .returned (.tuple #[])∧mx w0 M G f1 f3 nm A w') :
  Calls Tryz.prog 20 #[.pointer (some ⟨M,0,none⟩),.int .i64 bit] W fun o w'=>o = .returned (.tuple #[])∧mx w0 M G f1 f3 nm A w':=by
 have HC:=hidX (hc _ (h.below (Below.refl _ _).drew))
 have y3:=h.m.cell 3 (.int .i64 C.p) rfl
 have y24:=h.m.cell 30 (.func (.func 82) #[] #[]) rfl
 rw[e] at y3
 clear h hc e
 go_enter Tryz.func20,Tryz.ntmps20
 go_wp2_with fail
 go_region_with (go_at_call 82;refine HC.out.mono ?_;rintro o w1 ⟨rfl,h1⟩;have H1:=hidX h1;clear h1)
 all_goals (
  go_wp2_with fail
  first | go_end0 | (simp only[Exit.inBlock,Exit.then];refine bodyPost_ret (results_none rfl _ _ _) rfl ?_) | refine bodyPost_ret (results_none rfl _ _ _) rfl ?_
  exact⟨rfl,H1.out⟩)
set_option maxHeartbeats 8000000 in
set_option maxRecDepth 20000 in
theorem step_3 (h:mx w0 M G f1 f3 nm C W) (bit:Int) (A:Co) (e:C.p=3) (hc:∀ X,mx w0 M G f1 f3 nm C X→Calls Tryz.prog 83 #[.pointer (some ⟨M,0,none⟩),.int .i64 bit] X fun o w'=>o = .returned (.tuple #[])∧mx w0 M G f1 f3 nm A w') :
  Calls Tryz.prog 20 #[.pointer (some ⟨M,0,none⟩),.int .i64 bit] W fun o w'=>o = .returned (.tuple #[])∧mx w0 M G f1 f3 nm A w':=by
 have HC:=hidX (hc _ (h.below (Below.refl _ _).drew))
 have y3:=h.m.cell 3 (.int .i64 C.p) rfl
 have y24:=h.m.cell 33 (.func (.func 83) #[] #[]) rfl
 rw[e] at y3
 clear h hc e
 go_enter Tryz.func20,Tryz.ntmps20
 go_wp2_with fail
 go_region_with (go_at_call 83;refine HC.out.mono ?_;rintro o w1 ⟨rfl,h1⟩;have H1:=hidX h1;clear h1)
 all_goals (
  go_wp2_with fail
  first | go_end0 | (simp only[Exit.inBlock,Exit.then];refine bodyPost_ret (results_none rfl _ _ _) rfl ?_) | refine bodyPost_ret (results_none rfl _ _ _) rfl ?_
  exact⟨rfl,H1.out⟩)
set_option maxHeartbeats 8000000 in
set_option maxRecDepth 20000 in
theorem step_4 (h:mx w0 M G f1 f3 nm C W) (bit:Int) (A:Co) (e:C.p=4) (hc:∀ X,mx w0 M G f1 f3 nm C X→Calls Tryz.prog 84 #[.pointer (some ⟨M,0,none⟩),.int .i64 bit] X fun o w'=>o = .returned (.tuple #[])∧mx w0 M G f1 f3 nm A w') :
  Calls Tryz.prog 20 #[.pointer (some ⟨M,0,none⟩),.int .i64 bit] W fun o w'=>o = .returned (.tuple #[])∧mx w0 M G f1 f3 nm A w':=by
 have HC:=hidX (hc _ (h.below (Below.refl _ _).drew))
 have y3:=h.m.cell 3 (.int .i64 C.p) rfl
 have y24:=h.m.cell 36 (.func (.func 84) #[] #[]) rfl
 rw[e] at y3
 clear h hc e
 go_enter Tryz.func20,Tryz.ntmps20
 go_wp2_with fail
 go_region_with (go_at_call 84;refine HC.out.mono ?_;rintro o w1 ⟨rfl,h1⟩;have H1:=hidX h1;clear h1)
 all_goals (
  go_wp2_with fail
  first | go_end0 | (simp only[Exit.inBlock,Exit.then];refine bodyPost_ret (results_none rfl _ _ _) rfl ?_) | refine bodyPost_ret (results_none rfl _ _ _) rfl ?_
  exact⟨rfl,H1.out⟩)
set_option maxHeartbeats 8000000 in
set_option maxRecDepth 20000 in
theorem step_5 (h:mx w0 M G f1 f3 nm C W) (bit:Int) (A:Co) (e:C.p=5) (hc:∀ X,mx w0 M G f1 f3 nm C X→Calls Tryz.prog 85 #[.pointer (some ⟨M,0,none⟩),.int .i64 bit] X fun o w'=>o = .returned (.tuple #[])∧mx w0 M G f1 f3 nm A w') :
  Calls Tryz.prog 20 #[.pointer (some ⟨M,0,none⟩),.int .i64 bit] W fun o w'=>o = .returned (.tuple #[])∧mx w0 M G f1 f3 nm A w':=by
 have HC:=hidX (hc _ (h.below (Below.refl _ _).drew))
 have y3:=h.m.cell 3 (.int .i64 C.p) rfl
 have y24:=h.m.cell 39 (.func (.func 85) #[] #[]) rfl
 rw[e] at y3
 clear h hc e
 go_enter Tryz.func20,Tryz.ntmps20
 go_wp2_with fail
 go_region_with (go_at_call 85;refine HC.out.mono ?_;rintro o w1 ⟨rfl,h1⟩;have H1:=hidX h1;clear h1)
 all_goals (
  go_wp2_with fail
  first | go_end0 | (simp only[Exit.inBlock,Exit.then];refine bodyPost_ret (results_none rfl _ _ _) rfl ?_) | refine bodyPost_ret (results_none rfl _ _ _) rfl ?_
  exact⟨rfl,H1.out⟩)
set_option maxHeartbeats 8000000 in
set_option maxRecDepth 20000 in
theorem step_6 (h:mx w0 M G f1 f3 nm C W) (bit:Int) (A:Co) (e:C.p=6) (hc:∀ X,mx w0 M G f1 f3 nm C X→Calls Tryz.prog 86 #[.pointer (some ⟨M,0,none⟩),.int .i64 bit] X fun o w'=>o = .returned (.tuple #[])∧mx w0 M G f1 f3 nm A w') :
  Calls Tryz.prog 20 #[.pointer (some ⟨M,0,none⟩),.int .i64 bit] W fun o w'=>o = .returned (.tuple #[])∧mx w0 M G f1 f3 nm A w':=by
 have HC:=hidX (hc _ (h.below (Below.refl _ _).drew))
 have y3:=h.m.cell 3 (.int .i64 C.p) rfl
 have y24:=h.m.cell 42 (.func (.func 86) #[] #[]) rfl
 rw[e] at y3
 clear h hc e
 go_enter Tryz.func20,Tryz.ntmps20
 go_wp2_with fail
 go_region_with (go_at_call 86;refine HC.out.mono ?_;rintro o w1 ⟨rfl,h1⟩;have H1:=hidX h1;clear h1)
 all_goals (
  go_wp2_with fail
  first | go_end0 | (simp only[Exit.inBlock,Exit.then];refine bodyPost_ret (results_none rfl _ _ _) rfl ?_) | refine bodyPost_ret (results_none rfl _ _ _) rfl ?_
  exact⟨rfl,H1.out⟩)
set_option maxHeartbeats 8000000 in
set_option maxRecDepth 20000 in
theorem step_7 (h:mx w0 M G f1 f3 nm C W) (bit:Int) (A:Co) (e:C.p=7) (hc:∀ X,mx w0 M G f1 f3 nm C X→Calls Tryz.prog 87 #[.pointer (some ⟨M,0,none⟩),.int .i64 bit] X fun o w'=>o = .returned (.tuple #[])∧mx w0 M G f1 f3 nm A w') :
  Calls Tryz.prog 20 #[.pointer (some ⟨M,0,none⟩),.int .i64 bit] W fun o w'=>o = .returned (.tuple #[])∧mx w0 M G f1 f3 nm A w':=by
 have HC:=hidX (hc _ (h.below (Below.refl _ _).drew))
 have y3:=h.m.cell 3 (.int .i64 C.p) rfl
 have y24:=h.m.cell 45 (.func (.func 87) #[] #[]) rfl
 rw[e] at y3
 clear h hc e
 go_enter Tryz.func20,Tryz.ntmps20
 go_wp2_with fail
 go_region_with (go_at_call 87;refine HC.out.mono ?_;rintro o w1 ⟨rfl,h1⟩;have H1:=hidX h1;clear h1)
 all_goals (
  go_wp2_with fail
  first | go_end0 | (simp only[Exit.inBlock,Exit.then];refine bodyPost_ret (results_none rfl _ _ _) rfl ?_) | refine bodyPost_ret (results_none rfl _ _ _) rfl ?_
  exact⟨rfl,H1.out⟩)
end Go.Proofs.YtgkkcpgocbcbaaaGreat
