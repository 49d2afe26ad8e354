import Derived.Test.YtgkkcpgocbcbaaaGreatK32
import Derived.Test.YtgkkcpgocbcbaaaGreatK33
namespace Go.Proofs.YtgkkcpgocbcbaaaGreat
open Go.RowKit
set_option linter.unusedVariables false
theorem goOff_any {w0:World} {M:Nat} {G:Lg} {C:Co} {f1 f3:Nat} {hs:Nat→Hd} {nm:Nat} {D:DataW Unit} {W:World} (h:mc w0 M G C f1 f3 hs nm D W):Calls Tryz.prog 135 #[.pointer (some ⟨M,0,none⟩)] W fun o w'=>o = .returned (.tuple #[])∧mc w0 M G { C with te:=256 } f1 f3 hs nm D w':=by
 have H1:Hid (mc w0 M G { C with te:=256 } f1 f3 hs nm D (W.setCell ⟨M,1,none⟩ (.int .i64 256))):=h.set 1 (.int .i64 256) rfl rfl
 have y1:=h.m.cell 1 (.int .i64 C.te) rfl
 have f1:=h.m.free 1
 clear h
 go_enter Tryz.func135,Tryz.ntmps135
 go_wp2_with fail
 first | go_end0 | (simp only[Exit.inBlock,Exit.then];refine bodyPost_ret (results_none rfl _ _ _) rfl ?_) | refine bodyPost_ret (results_none rfl _ _ _) rfl ?_
 exact⟨rfl,H1.out⟩
def addC (C:Co) (tx:Bool) (n:Int):Co:=if tx then { C with te:=if 256≤C.te+n then 256 else C.te+n } else { C with re:=min (C.re+n) 255 }
set_option maxHeartbeats 8000000 in
set_option maxRecDepth 20000 in
theorem add_any {w0:World} {M:Nat} {G:Lg} {C:Co} {f1 f3:Nat} {hs:Nat→Hd} {nm:Nat} {D:DataW Unit} {W:World} (h:mc w0 M G C f1 f3 hs nm D W) (tx:Bool) (n:Int) (hn:0≤n∧n≤8) (ht:0≤C.te∧C.te≤256) (hr:0≤C.re∧C.re≤255):Calls Tryz.prog 111 #[.pointer (some ⟨M,0,none⟩),.bool tx,.int .i64 n] W fun o w'=>o = .returned (.tuple #[])∧mc w0 M G (addC C tx n) f1 f3 hs nm D w':=by
 have y1:=h.m.cell 1 (.int .i64 C.te) rfl
 have y2:=h.m.cell 2 (.int .i64 C.re) rfl
 have g1:=h.m.free 1
 have g2:=h.m.free 2
 cases tx
 ·have HA:Hid (addC C false n = { C with re:=min (C.re+n) 255 }):=rfl
  have H1:Hid (mc w0 M G { C with re:=min (C.re+n) 255 } f1 f3 hs nm D (W.setCell ⟨M,2,none⟩ (.int .i64 (min (C.re+n) 255)))):=h.set 2 (.int .i64 (min (C.re+n) 255)) rfl rfl
  have hw:IntKind.i64.wrap (C.re+n)=C.re+n:=by rw[IntKind.wrap_i64];omega
  generalize C.re=re at *
  clear h ht hr hn
  go_enter Tryz.func111,Tryz.ntmps111
  go_wp2_with fail
  first | go_end0 | (simp only[Exit.inBlock,Exit.then];refine bodyPost_ret (results_none rfl _ _ _) rfl ?_) | refine bodyPost_ret (results_none rfl _ _ _) rfl ?_
  exact⟨rfl,by rw[HA.out];exact H1.out⟩
 ·have h1:mc w0 M G { C with te:=C.te+n } f1 f3 hs nm D (W.setCell ⟨M,1,none⟩ (.int .i64 (C.te+n))):=h.set 1 (.int .i64 (C.te+n)) rfl rfl
  have hw:IntKind.i64.wrap (C.te+n)=C.te+n:=by rw[IntKind.wrap_i64];omega
  by_cases hb:256≤C.te+n
  ·have HA:Hid (addC C true n = { C with te:=256 }):=by show addC C true n=_;unfold addC;rw[if_pos rfl,if_pos hb]
   have HG:Hid (Calls Tryz.prog 135 #[.pointer (some ⟨M,0,none⟩)] (W.setCell ⟨M,1,none⟩ (.int .i64 (C.te+n))) fun o w'=>o = .returned (.tuple #[])∧mc w0 M G { C with te:=256 } f1 f3 hs nm D w'):=goOff_any (C:={ C with te:=C.te+n }) h1
   have db:decide (256≤C.te+n)=true:=by simpa using hb
   clear h ht hr hn h1
   generalize C.te=te at *
   go_enter Tryz.func111,Tryz.ntmps111
   go_wp2_with fail
   refine HG.out.mono ?_
   rintro o w2 ⟨rfl,h2⟩
   have H2:Hid (mc w0 M G { C with te:=256 } f1 f3 hs nm D w2):=h2
   clear h2
   go_wp2_with fail
   first | go_end0 | (simp only[Exit.inBlock,Exit.then];refine bodyPost_ret (results_none rfl _ _ _) rfl ?_) | refine bodyPost_ret (results_none rfl _ _ _) rfl ?_
   exact⟨rfl,by rw[HA.out];exact H2.out⟩
  ·have HA:Hid (addC C true n = { C with te:=C.te+n }):=by show addC C true n=_;unfold addC;rw[if_pos rfl,if_neg hb]
   have H1:Hid (mc w0 M G { C with te:=C.te+n } f1 f3 hs nm D (W.setCell ⟨M,1,none⟩ (.int .i64 (C.te+n)))):=h1
   have db:decide (256≤C.te+n)=false:=by simpa using hb
   clear h ht hr hn h1
   generalize C.te=te at *
   go_enter Tryz.func111,Tryz.ntmps111
   go_wp2_with fail
   first | go_end0 | (simp only[Exit.inBlock,Exit.then];refine bodyPost_ret (results_none rfl _ _ _) rfl ?_) | refine bodyPost_ret (results_none rfl _ _ _) rfl ?_
   exact⟨rfl,by rw[HA.out];exact H1.out⟩
def fwZ (tx ow:Bool) (p k:Int):Int:=if tx && (ow || k == 6) then 0 else if tx || p == 2 then 8 else 1
set_option maxHeartbeats 8000000 in
set_option maxRecDepth 20000 in
theorem faultWeight_any {w0:World} {M:Nat} {G:Lg} {C:Co} {f1 f3:Nat} {hs:Nat→Hd} {nm:Nat} {D:DataW Unit} {W:World} (h:mc w0 M G C f1 f3 hs nm D W) (k:Int):Calls Tryz.prog 134 #[.pointer (some ⟨M,0,none⟩),.int .i64 k] W fun o w'=>o = .returned (.int .i64 (fwZ C.tx C.ow C.p k))∧W=w':=by
 have y3:=h.m.cell 3 (.int .i64 C.p) rfl
 have y8:=h.m.cell 8 (.bool C.ow) rfl
 have y9:=h.m.cell 9 (.bool C.tx) rfl
 clear h
 unfold fwZ
 generalize C.tx=tx at *
 generalize C.ow=ow at *
 generalize C.p=p at *
 obtain⟨q6,e6⟩ : ∃ q,(k == 6)=q:=⟨_,rfl⟩
 obtain⟨q2,e2⟩ : ∃ q,(p == 2)=q:=⟨_,rfl⟩
 rw[e6,e2]
 cases tx <;> cases ow <;> cases q6 <;> cases q2
 all_goals
  go_enter Tryz.func134,Tryz.ntmps134
  go_wp2_with fail
  go_ret
  exact⟨rfl,rfl⟩
set_option maxHeartbeats 8000000 in
set_option maxRecDepth 20000 in
theorem release_fr {w0:World} {G:Lg} {H:Ho} {f1 f3:Nat} {hs:Nat→Hd} {nm:Nat} {D:DataW Unit} {W:World} (h:lh w0 G H f1 f3 hs nm D W) (sent:Bool) (hwf:∀ j (hj:j<H.bx.length),(Lit.int .i64 H.bx[j].y).wf=true) :
  Calls Tryz.prog 133 #[.pointer (some ⟨G.P,0,none⟩),.bool sent] W fun o w'=>o = .returned (.tuple #[])∧(∃ hs' D',lh w0 G (relHo H sent) f1 f3 hs' nm D' w')∧(∀ q,q≠G.P→q≠G.gq→q≠G.gb→q≠G.mb→q<W.heap.size→w'.heap[q]?=W.heap[q]?):=by
 have HOW:Hid (Calls Tryz.prog 94 #[.pointer (some ⟨G.P,0,none⟩)] W fun o w'=>∃ z:Int,o = .returned (.int .i64 z)∧bsy H.bx z∧Below W.heap.size W w'):=onWire_any W G.P _ G.n2 G.kb H.bx (h.p.cell 5 _ rfl) (h.x.is h.bd.nk) (by have:=h.bd.m2;omega)
 have HL:Hid (lh w0 G H f1 f3 hs nm D W):=h
 have HWF:Hid (∀ j (hj:j<H.bx.length),(Lit.int .i64 H.bx[j].y).wf=true):=hwf
 clear h hwf
 go_enter Tryz.func133,Tryz.ntmps133
 go_wp2_with fail
 refine HOW.out.mono ?_
 rintro o w5 ⟨z,rfl,hz,hb5⟩
 have HL5:Hid (lh w0 G H f1 f3 hs nm D w5):=HL.out.below hb5
 have HF5:Hid (Below W.heap.size W w5):=hb5
 have hR:=hz.ix
 clear HOW HL hz hb5
 rcases hR with⟨rfl,hno⟩|⟨rfl,hk⟩
 ·have HT:Hid (relHo H sent=H):=relHo_none hno
  go_wp2_with fail
  first | go_end0 | (simp only[Exit.inBlock,Exit.then];refine bodyPost_ret (results_none rfl _ _ _) rfl ?_) | refine bodyPost_ret (results_none rfl _ _ _) rfl ?_
  exact⟨rfl,⟨hs,D,by rw[HT.out];exact HL5.out⟩,fun q _ _ _ _ h=>HF5.out.block q h⟩
 ·have hon:=wireIx_on hk
  generalize ek:wireIx H.bx=k at *
  have HEK:Hid (wireIx H.bx=k):=ek
  clear ek
  obtain⟨b,eb⟩ : ∃ b,H.bx[k]=b:=⟨_,rfl⟩
  obtain⟨ao,m,c,eh⟩ : ∃ ao m c,hs k=(ao,m,c):=⟨_,_,_,rfl⟩
  have HV:Hid (Calls Tryz.prog 150 #[.pointer (some ⟨G.P,0,none⟩),.int .i64 (k:Int)] w5 fun o w'=>o = .returned (.agg #[.int .i64 b.x,.int .i64 b.y,.int .i64 b.z,.bool b.e,.int .u32 (b.i:Int),.bool b.r,.int .i64 b.d,.slice ao m c])∧lh w0 G (freeHo H k) f1 f3 (fun j=>if j=k then (none,0,0) else hs j) nm (D.del (.int .i64 b.y)) w'∧(∀ q,q≠G.gb→q≠G.mb→q<w5.heap.size→w'.heap[q]?=w5.heap[q]?)∧w5.heap.size≤w'.heap.size):=vacate_any HL5.out k hk b eb ao m c eh (by rw[← eb];exact HWF.out k hk)
  have HBY:Hid (isBytes w0 ao m c b.l∧b.l.length≤1048576):=by
   have h1:=HL5.out.x.old k hk (Nat.zero_le _)
   have h2:=HL5.out.x.sm k hk
   rw[eb,eh] at h1
   rw[eb] at h2
   exact⟨h1,h2⟩
  have HY0:Hid (w5.cell? ⟨G.gb,k*8,none⟩=some (.int .i64 b.x)):=by
   have:=HL5.out.x.rng k hk 0 _ rfl
   rw[eb] at this
   exact this
  have hf0:w5.frozen? ⟨G.gb,k*8,none⟩=false:=(HL5.out.x.row (k*8) (by have:=HL5.out.x.len;omega)).2
  have y5:=HL5.out.p.cell 5 _ rfl
  have hkn:k<G.n2:=by have:=HL5.out.x.len;omega
  have hcp:=HL5.out.bd.nk
  have hm2:=HL5.out.bd.m2
  have HEB:Hid (∃ hk:k<H.bx.length,H.bx[k]=b):=⟨hk,eb⟩
  have HKK:Hid (k<H.bx.length):=hk
  rw[eb] at hon
  clear eb eh
  cases sent
  ·rcases hon with e0|e0
   ·have HT:Hid (relHo H false=stHo H k 1):=relHo_wait HKK.out HEK.out HEB.out.2 e0
    have y0:=HY0.out
    rw[e0] at y0
    go_wp2_with fail
    first | go_end0 | (simp only[Exit.inBlock,Exit.then];refine bodyPost_ret (results_none rfl _ _ _) rfl ?_) | refine bodyPost_ret (results_none rfl _ _ _) rfl ?_
    exact⟨rfl,⟨hs,D,by rw[HT.out];exact HL5.out.state k HKK.out 1⟩,fun q _ _ h3 _ h5=>(heap_setCell_other w5 ⟨G.gb,k*8,none⟩ q _ h3).trans (HF5.out.block q h5)⟩
   ·have HT:Hid (relHo H false=postHo (freeHo H k) (ev3 6 b.y 0)):=relHo_doom HKK.out HEK.out HEB.out.2 e0
    have y0:=HY0.out
    rw[e0] at y0
    go_wp2_with fail
    refine HV.out.mono ?_
    rintro o w6 ⟨rfl,hl6,hk6,hz6⟩
    have HF6:Hid ((∀ q,q≠G.gb→q≠G.mb→q<w5.heap.size→w6.heap[q]?=w5.heap[q]?)∧w5.heap.size≤w6.heap.size):=⟨hk6,hz6⟩
    clear hk6 hz6
    have HP:Hid (Calls Tryz.prog 40 #[.pointer (some ⟨G.P,0,none⟩),.agg #[.int .i64 6,.int .i64 b.y,.int .i64 0,.bool false,.int .u32 0,.bool false,.int .i64 0,.slice none 0 0]] w6 fun o w'=>o = .returned (.tuple #[])∧lh w0 G (postHo (freeHo H k) (ev3 6 b.y 0)) f1 f3 (fun j=>if j=k then (none,0,0) else hs j) nm (D.del (.int .i64 b.y)) w'∧(∀ q,q≠G.P→q≠G.gq→q<w6.heap.size→w'.heap[q]?=w6.heap[q]?)∧w6.heap.size≤w'.heap.size):=hl6.post (ev3 6 b.y 0) none 0 0 (none8 _) (Nat.zero_le _)
    clear hl6 HV
    have hfd:=field97 3 b.y b.z b.e b.i b.r b.d ao m c
    go_wp2_with fail
    refine HP.out.mono ?_
    rintro o w7 ⟨rfl,hl7,hk7,_⟩
    have HF7:Hid (∀ q,q≠G.P→q≠G.gq→q<w6.heap.size→w7.heap[q]?=w6.heap[q]?):=hk7
    clear hk7
    have HL7:Hid (lh w0 G (postHo (freeHo H k) (ev3 6 b.y 0)) f1 f3 (fun j=>if j=k then (none,0,0) else hs j) nm (D.del (.int .i64 b.y)) w7):=hl7
    clear hl7 HP
    go_wp2_with fail
    first | go_end0 | (simp only[Exit.inBlock,Exit.then];refine bodyPost_ret (results_none rfl _ _ _) rfl ?_) | refine bodyPost_ret (results_none rfl _ _ _) rfl ?_
    exact⟨rfl,⟨_,_,by rw[HT.out];exact HL7.out⟩,fun q a1 a2 a3 a4 a5=>(HF7.out q a1 a2 (by have:=HF6.out.2;have:=HF5.out.size;omega)).trans ((HF6.out.1 q a3 a4 (by have:=HF5.out.size;omega)).trans (HF5.out.block q a5))⟩
  ·have HT:Hid (relHo H true=postHo (freeHo H k) ⟨1,b.y,0,b.e,b.i,b.r,b.d,b.l⟩):=relHo_sent HKK.out HEK.out HEB.out.2
   obtain⟨bX,bY,bZ,bE,bI,bR,bD,bL⟩:=b
   go_wp2_with fail
   refine HV.out.mono ?_
   rintro o w6 ⟨rfl,hl6,hk6,hz6⟩
   have HF6:Hid ((∀ q,q≠G.gb→q≠G.mb→q<w5.heap.size→w6.heap[q]?=w5.heap[q]?)∧w5.heap.size≤w6.heap.size):=⟨hk6,hz6⟩
   clear hk6 hz6
   have hbA:Below w6.heap.size w6 (w6.alloc (.cells [.int .i64 bX,.int .i64 bY,.int .i64 bZ,.bool bE,.int .u32 (bI:Int),.bool bR,.int .i64 bD,.slice ao m c].toArray 55)):=(Below.refl _ _).alloc (Nat.le_refl _) _
   have HP:Hid (Calls Tryz.prog 40 #[.pointer (some ⟨G.P,0,none⟩),.agg #[.int .i64 1,.int .i64 bY,.int .i64 0,.bool bE,.int .u32 (bI:Int),.bool bR,.int .i64 bD,.slice ao m c]] (w6.alloc (.cells [.int .i64 bX,.int .i64 bY,.int .i64 bZ,.bool bE,.int .u32 (bI:Int),.bool bR,.int .i64 bD,.slice ao m c].toArray 55)) fun o w'=>o = .returned (.tuple #[])∧lh w0 G (postHo (freeHo H k) ⟨1,bY,0,bE,bI,bR,bD,bL⟩) f1 f3 (fun j=>if j=k then (none,0,0) else hs j) nm (D.del (.int .i64 bY)) w'∧(∀ q,q≠G.P→q≠G.gq→q<(w6.alloc (.cells [.int .i64 bX,.int .i64 bY,.int .i64 bZ,.bool bE,.int .u32 (bI:Int),.bool bR,.int .i64 bD,.slice ao m c].toArray 55)).heap.size→w'.heap[q]?=(w6.alloc (.cells [.int .i64 bX,.int .i64 bY,.int .i64 bZ,.bool bE,.int .u32 (bI:Int),.bool bR,.int .i64 bD,.slice ao m c].toArray 55)).heap[q]?)∧(w6.alloc (.cells [.int .i64 bX,.int .i64 bY,.int .i64 bZ,.bool bE,.int .u32 (bI:Int),.bool bR,.int .i64 bD,.slice ao m c].toArray 55)).heap.size≤w'.heap.size):=(hl6.below hbA).post ⟨1,bY,0,bE,bI,bR,bD,bL⟩ ao m c HBY.out.1 HBY.out.2
   have HPB:Hid (blk (w6.alloc (.cells [.int .i64 bX,.int .i64 bY,.int .i64 bZ,.bool bE,.int .u32 (bI:Int),.bool bR,.int .i64 bD,.slice ao m c].toArray 55)) w6.heap.size [.int .i64 bX,.int .i64 bY,.int .i64 bZ,.bool bE,.int .u32 (bI:Int),.bool bR,.int .i64 bD,.slice ao m c] 55):=blk.new w6 _ 55
   have y1:(w6.alloc (.cells [.int .i64 bX,.int .i64 bY,.int .i64 bZ,.bool bE,.int .u32 (bI:Int),.bool bR,.int .i64 bD,.slice ao m c].toArray 55)).cell? ⟨w6.heap.size,1,none⟩=some (.int .i64 bY):=HPB.out.cell 1 _ rfl
   have HBA:Hid (Below w6.heap.size w6 (w6.alloc (.cells [.int .i64 bX,.int .i64 bY,.int .i64 bZ,.bool bE,.int .u32 (bI:Int),.bool bR,.int .i64 bD,.slice ao m c].toArray 55))):=hbA
   clear hl6 hbA HV
   go_wp2_with (first
    | (refine wpList_load_mid (P:=Tryz.prog) rfl 37 _ rfl w6.heap.size 3 rfl [.bool bE,.int .u32 (bI:Int),.bool bR,.int .i64 bD,.slice ao m c] _ (blk.loadAt [.int .i64 bX,.int .i64 bY,.int .i64 bZ] [.bool bE,.int .u32 (bI:Int),.bool bR,.int .i64 bD,.slice ao m c] [] HPB.out) Tryz.underlying37 rfl sz93 ?_))
   refine HP.out.mono ?_
   rintro o w7 ⟨rfl,hl7,hk7,_⟩
   have HF7:Hid (∀ q,q≠G.P→q≠G.gq→q<w6.heap.size→w7.heap[q]?=w6.heap[q]?):=fun q h1 h2 h3=>(hk7 q h1 h2 (Nat.lt_of_lt_of_le h3 HBA.out.size)).trans (HBA.out.block q h3)
   clear hk7 HBA
   have HL7:Hid (lh w0 G (postHo (freeHo H k) ⟨1,bY,0,bE,bI,bR,bD,bL⟩) f1 f3 (fun j=>if j=k then (none,0,0) else hs j) nm (D.del (.int .i64 bY)) w7):=hl7
   clear hl7 HP
   go_wp2_with fail
   first | go_end0 | (simp only[Exit.inBlock,Exit.then];refine bodyPost_ret (results_none rfl _ _ _) rfl ?_) | refine bodyPost_ret (results_none rfl _ _ _) rfl ?_
   exact⟨rfl,⟨_,_,by rw[HT.out];exact HL7.out⟩,fun q a1 a2 a3 a4 a5=>(HF7.out q a1 a2 (by have:=HF6.out.2;have:=HF5.out.size;omega)).trans ((HF6.out.1 q a3 a4 (by have:=HF5.out.size;omega)).trans (HF5.out.block q a5))⟩
theorem mc.release {w0:World} {M:Nat} {G:Lg} {C:Co} {f1 f3:Nat} {hs:Nat→Hd} {nm:Nat} {D:DataW Unit} {W:World} (h:mc w0 M G C f1 f3 hs nm D W) (sent:Bool) (hwf:∀ j (hj:j<C.ho.bx.length),(Lit.int .i64 C.ho.bx[j].y).wf=true) :
  Calls Tryz.prog 133 #[.pointer (some ⟨G.P,0,none⟩),.bool sent] W fun o w'=>o = .returned (.tuple #[])∧∃ hs' D',mc w0 M G { C with ho:=relHo C.ho sent } f1 f3 hs' nm D' w':=by
 refine (release_fr h.h sent hwf).mono ?_
 rintro o w' ⟨rfl,⟨hs',D',h1⟩,h2⟩
 exact⟨rfl,hs',D',h.m.kept (h2 M h.o.1 h.o.2.2.2.2.2.1 h.o.2.2.2.1 h.o.2.1 h.m.lt),h1,h.o⟩
theorem mc.post2 {w0:World} {M:Nat} {G:Lg} {C:Co} {f1 f3:Nat} {hs:Nat→Hd} {nm:Nat} {D:DataW Unit} {W:World} (h:mc w0 M G C f1 f3 hs nm D W) (k a b:Int) :
  Calls Tryz.prog 40 #[.pointer (some ⟨G.P,0,none⟩),.agg #[.int .i64 k,.int .i64 a,.int .i64 b,.bool false,.int .u32 0,.bool false,.int .i64 0,.slice none 0 0]] W fun o w'=>o = .returned (.tuple #[])∧mc w0 M G { C with ho:=postHo C.ho (ev3 k a b) } f1 f3 hs nm D w':=by
 refine (h.h.post (ev3 k a b) none 0 0 (none8 _) (Nat.zero_le _)).mono ?_
 rintro o w' ⟨rfl,h1,h2,h3⟩
 exact⟨rfl,h.m.kept (h2 M h.o.1 h.o.2.2.2.2.2.1 h.m.lt),h1,h.o⟩
theorem lh.setCell {w0:World} {G:Lg} {H:Ho} {f1 f3:Nat} {hs:Nat→Hd} {nm:Nat} {D:DataW Unit} {W:World} (h:lh w0 G H f1 f3 hs nm D W) {B x:Nat} (hB:lhU G B) (hx:B≤x) (o:Nat) (v:Value):lh w0 G H f1 f3 hs nm D (W.setCell ⟨x,o,none⟩ v):=by
 have:=h.put hB hx o [v]
 simpa[World.setCells] using this
abbrev qHo (H:Ho) (q:List R8):Ho:={ H with qu:=q }
theorem lh.drained {w0:World} {G:Lg} {H:Ho} {f1 f3:Nat} {hs:Nat→Hd} {nm:Nat} {D:DataW Unit} {W:World} (h:lh w0 G H f1 f3 hs nm D W) (Q:Nat) (hQ:Q<G.r3):lh w0 G (qHo H []) f1 Q hs nm D ((W.setCell ⟨G.P,11,none⟩ (.int .i64 (Q:Int))).setCell ⟨G.P,12,none⟩ (.int .i64 0)):=by
 have dp:=h.d.p
 have dl:=h.d.lo
 have hb3:=h.bd.b3
 have he:∀ q,q≠G.P→((W.setCell ⟨G.P,11,none⟩ (.int .i64 (Q:Int))).setCell ⟨G.P,12,none⟩ (.int .i64 0)).heap[q]?=W.heap[q]?:=fun q hq=>(heap_setCell_other _ _ _ _ (by exact hq)).trans (heap_setCell_other _ _ _ _ (by exact hq))
 have hb:Below w0.heap.size w0 ((W.setCell ⟨G.P,11,none⟩ (.int .i64 (Q:Int))).setCell ⟨G.P,12,none⟩ (.int .i64 0)):=(h.b.setCell (by exact dl.2.1) _).setCell (by exact dl.2.1) _
 have hz:W.heap.size≤((W.setCell ⟨G.P,11,none⟩ (.int .i64 (Q:Int))).setCell ⟨G.P,12,none⟩ (.int .i64 0)).heap.size:=(((Below.refl 0 W).setCell (Nat.zero_le _) _).setCell (Nat.zero_le _) _).size
 refine⟨(h.p.set 11 _).set 12 _,h.f.same (he _ dp.1),h.x.at0 (he _ dp.2.1) hb,h.r.keep (he _ dp.2.2.1),h.rz.up (he _ dp.2.2.1),fun i hi=>absurd hi (Nat.not_lt_zero _),h.qz.up (he _ dp.2.2.2.1),?_,hb,⟨Nat.lt_of_lt_of_le h.hi.1 hz,Nat.lt_of_lt_of_le h.hi.2.1 hz,Nat.lt_of_lt_of_le h.hi.2.2 hz⟩,h.d,⟨h.bd.e1,h.bd.e3,h.bd.m1,h.bd.m2,h.bd.nk,h.bd.b1,⟨hQ,hb3.2.1,Nat.zero_le _⟩,h.bd.lo,h.bd.s3,fun j hj=>absurd hj (Nat.not_lt_zero _)⟩⟩
 obtain⟨es,clock,q1,q2⟩:=h.m
 exact⟨es,clock,(he _ dp.2.2.2.2).trans q1,q2⟩
set_option maxHeartbeats 4000000 in
set_option maxRecDepth 20000 in
theorem take8_all {w0:World} {G:Lg} {H:Ho} {f1 f3:Nat} {hs:Nat→Hd} {nm:Nat} {D:DataW Unit} {w:World} (h:lh w0 G H f1 f3 hs nm D w) (n:Nat) (hn:n=H.qu.length) :
  Calls Tryz.prog 47 #[.pointer (some ⟨G.P,10,none⟩),.int .i64 (n:Int)] w fun e w'=>∃ a c hs',e = .returned (.slice a n c)∧(∀ g,a=some ⟨g,0,none⟩→w.heap.size≤g)∧dx8 w0 0 a n c H.qu hs' 0 w'∧(∃ f3',lh w0 G (qHo H []) f1 f3' hs nm D w')∧w.heap.size≤w'.heap.size:=by
 have HLK:Hid (Calls Tryz.prog 77 #[.pointer (some ⟨G.P,10,none⟩),.int .i64 (n:Int)] w fun e w'=>∃ a c hs',e = .returned (.slice a n c)∧(∀ g,a=some ⟨g,0,none⟩→w.heap.size≤g)∧dx8 w0 0 a n c H.qu hs' 0 w'∧Below w.heap.size w w'):=by
  have hb3:=h.bd.b3
  exact look8_dr w0 w G.P 10 G.gq G.r3 f3 n H.qu hn (h.p.cell 10 _ rfl) (h.p.cell 11 _ rfl) (by rw[hn];exact h.p.cell 12 _ rfl) h.q hb3.1 ⟨by omega,hb3.2.1⟩ (by omega) h.b h.bd.s4
 have HL:Hid (lh w0 G H f1 f3 hs nm D w):=h
 have HN:Hid (n=H.qu.length):=hn
 have HPL:Hid (G.P<w.heap.size):=h.p.lt
 clear h hn
 go_enter Tryz.func47,Tryz.ntmps47
 go_wp2_with fail
 refine HLK.out.mono ?_
 rintro e w2 ⟨a,c,hs',rfl,hx,hd,hb⟩
 have HL2:Hid (lh w0 G H f1 f3 hs nm D w2):=HL.out.below hb
 have HX:Hid ((∀ g,a=some ⟨g,0,none⟩→w.heap.size≤g)∧dx8 w0 0 a n c H.qu hs' 0 w2):=⟨hx,hd⟩
 have HB:Hid (w.heap.size≤w2.heap.size):=hb.size
 clear HLK HL hx hd hb
 by_cases h0:n=0
 ·have HE:Hid (H=(qHo H [])):=by
   have hq:H.qu=[]:=List.length_eq_zero_iff.1 (by have:=HN.out;omega)
   show H=_
   obtain⟨c0,c1,c2,c3,fs,bx,ff,qu,lo,st⟩:=H
   simp only[] at hq
   subst hq
   rfl
  subst h0
  go_wp2_with fail
  go_ret
  refine⟨a,c,hs',rfl,HX.out.1,HX.out.2,⟨f3,?_⟩,HB.out⟩
  have:=HL2.out
  rw[HE.out] at this
  exact this
 ·have y10:=HL2.out.p.cell 10 _ rfl
  have y11:=HL2.out.p.cell 11 _ rfl
  have y12:w2.cell? ⟨G.P,12,none⟩=some (.int .i64 (n:Int)):=by
   have:=HL2.out.p.cell 12 _ rfl
   rw[← HN.out] at this
   exact this
  have z11:=HL2.out.p.free 11
  have z12:=HL2.out.p.free 12
  have hb3:=HL2.out.bd.b3
  have hnl:=HN.out
  have hpos:(0:Int)<(n:Int):=by omega
  have hd0:decide ((0:Int)<(n:Int))=true:=by simpa using hpos
  obtain⟨Q,hQ⟩ : ∃ Q,(f3+n) % G.r3=Q:=⟨_,rfl⟩
  have HQ:Hid (Q<G.r3):=by show Q<_;rw[← hQ];exact Nat.mod_lt _ (by omega)
  have hwk:IntKind.i64.wrap ((f3:Int)+(n:Int))=((f3+n:Nat):Int):=by rw[IntKind.wrap_i64];omega
  have hr0:¬ G.r3=0:=by omega
  have htm:((f3+n:Nat):Int).tmod (G.r3:Int)=(Q:Int):=by rw[← hQ];exact (Int.ofNat_tmod _ _).symm
  have htm2:((f3:Int)+(n:Int)).tmod (G.r3:Int)=(Q:Int):=htm
  have hwr:IntKind.i64.wrap ((n:Int)-(n:Int))=0:=by rw[IntKind.wrap_i64];omega
  clear hQ hnl
  go_wp2_with fail
  refine wp_region_still_tail 16 (by kernel_rfl) (by kernel_rfl) ?_
  change wpStill Tryz.prog _ (World.drew w2) (fun a'=>wpList Tryz.prog _ _ _ a' (World.drew w2)) _ _
  have hbd:Below w2.heap.size w2 (World.drew w2):=(Below.refl _ _).drew
  have HL2:Hid (lh w0 G H f1 f3 hs nm D (World.drew w2)):=HL2.out.below hbd
  have HX:Hid ((∀ g,a=some ⟨g,0,none⟩→w.heap.size≤g)∧dx8 w0 0 a n c H.qu hs' 0 (World.drew w2)):=⟨HX.out.1,HX.out.2.below hbd⟩
  have HB:Hid (w.heap.size≤(World.drew w2).heap.size):=HB.out
  have y10:(World.drew w2).cell? ⟨G.P,10,none⟩=some (.slice (some ⟨G.gq,0,none⟩) G.r3 G.r3):=y10
  have y11:(World.drew w2).cell? ⟨G.P,11,none⟩=some (.int .i64 (f3:Int)):=y11
  have y12:(World.drew w2).cell? ⟨G.P,12,none⟩=some (.int .i64 (n:Int)):=y12
  have z11:(World.drew w2).frozen? ⟨G.P,11,none⟩=false:=z11
  have z12:(World.drew w2).frozen? ⟨G.P,12,none⟩=false:=z12
  clear hbd
  generalize World.drew w2=w3 at *
  simp only[List.take_succ_cons,List.take_zero,List.drop_succ_cons,List.drop_zero]
  repeat still_step
  refine wpStill_nil ?_
  go_wp2_with fail
  go_ret
  have hfx:=HL2.out.drained Q HQ.out
  have hz:=(((Below.refl 0 w3).setCell (p:=⟨G.P,11,none⟩) (Nat.zero_le _) (.int .i64 (Q:Int))).setCell (p:=⟨G.P,12,none⟩) (Nat.zero_le _) (.int .i64 0)).size
  refine⟨a,c,hs',rfl,HX.out.1,HX.out.2.same0 (fun g hg=>?_) hz hfx.b,⟨Q,hfx⟩,Nat.le_trans HB.out hz⟩
  have hgp:g≠G.P:=by have:=HX.out.1 g hg;have:=HPL.out;omega
  exact (heap_setCell_other _ _ _ _ (by exact hgp)).trans (heap_setCell_other _ _ _ _ (by exact hgp))
theorem ownE {w0:World} {G:Lg} {H:Ho} {f1 f3:Nat} {hs:Nat→Hd} {nm:Nat} {D:DataW Unit} {W:World} (h:lh w0 G H f1 f3 hs nm D W) {B U k n c gx:Nat} {qu:List R8} {he:Nat→Hd} (hB:lhU G B) (hd:dr8 w0 U gx n qu he k W) (hgx:B≤gx) (hU:gx<U) (hUz:U≤W.heap.size) (hk:k<n) :
  Calls Tryz.prog 48 #[.pointer (some ⟨gx,k*8+3,none⟩)] W fun e w'=>∃ he',e = .returned (.tuple #[])∧dr8 w0 U gx n qu he' (k+1) w'∧lh w0 G H f1 f3 hs nm D w'∧U≤w'.heap.size:=by
 have hkl:k<qu.length:=by have:=hd.len;omega
 refine (ownData_any W gx (k*8+3) _ _ _ qu[k].l (hd.at_ k hkl).cs (hd.row (k*8+7) (by omega)).2 (hd.at_ k hkl).dat (by have:=(hd.at_ k hkl).dat.len;have:=hd.sm k hkl;omega)).mono ?_
 rintro e w' ⟨a',c',w1,rfl,rfl,q1,q2,q3⟩
 obtain⟨he',d2⟩:=hd.step hkl hUz hU a' c' q1 q2 q3
 exact⟨he',rfl,d2,(h.below q3).setCell hB hgx _ _,by have:=q3.size;simp;omega⟩
set_option maxHeartbeats 4000000 in
set_option maxRecDepth 20000 in
theorem drain_any {w0:World} {G:Lg} {H:Ho} {f1 f3:Nat} {hs:Nat→Hd} {nm:Nat} {D:DataW Unit} {w:World} (h:lh w0 G H f1 f3 hs nm D w) :
  Calls Tryz.prog 27 #[.pointer (some ⟨G.P,0,none⟩)] w fun e w'=>∃ a c he U,e = .returned (.slice a H.qu.length c)∧dx8 w0 U a H.qu.length c H.qu he H.qu.length w'∧(∀ g,a=some ⟨g,0,none⟩→w.heap.size≤g∧g<U)∧w.heap.size≤U∧∃ f3',lh w0 G (qHo H []) f1 f3' hs nm D w':=by
 obtain⟨n,hn⟩ : ∃ n,n=H.qu.length:=⟨_,rfl⟩
 rw[← hn]
 have HN:Hid (n=H.qu.length∧n≤1000):=⟨hn,by have:=h.bd.b3;omega⟩
 have HTK:Hid (∀ X,lh w0 G H f1 f3 hs nm D X→Calls Tryz.prog 47 #[.pointer (some ⟨G.P,10,none⟩),.int .i64 (n:Int)] X fun e w'=>∃ a c hs',e = .returned (.slice a n c)∧(∀ g,a=some ⟨g,0,none⟩→X.heap.size≤g)∧dx8 w0 0 a n c H.qu hs' 0 w'∧(∃ f3',lh w0 G (qHo H []) f1 f3' hs nm D w')∧X.heap.size≤w'.heap.size):=fun X hX=>take8_all hX n hn
 have HLU:Hid (lhU G w.heap.size):=h.lts
 have HLd:Hid (lh w0 G H f1 f3 hs nm D (World.drew w)):=h.below (Below.refl _ _).drew
 have y12:(World.drew w).cell? ⟨G.P,12,none⟩=some (.int .i64 (n:Int)):=by
  have:=HLd.out.p.cell 12 _ rfl
  rw[hn]
  exact this
 clear h hn
 go_enter Tryz.func27,Tryz.ntmps27
 go_wp2_with fail
 refine wp_region_still_tail 8 (by kernel_rfl) (by kernel_rfl) ?_
 change wpStill Tryz.prog _ (World.drew w) (fun a'=>wpList Tryz.prog _ _ _ a' (World.drew w)) _ _
 have HZ:Hid (w.heap.size≤(World.drew w).heap.size):=Nat.le_refl _
 generalize World.drew w=v0 at *
 simp only[List.take_succ_cons,List.take_zero,List.drop_succ_cons,List.drop_zero]
 repeat still_step
 refine wpStill_nil ?_
 go_wp2_with fail
 refine (HTK.out v0 HLd.out).mono ?_
 rintro e w2 ⟨a,c,he0,rfl,hg,hd,⟨f3',hl⟩,hz⟩
 have HD0:Hid (dx8 w0 w2.heap.size a n c H.qu he0 0 w2):=hd.same0 (fun _ _=>rfl) (Nat.le_refl _) hl.b
 have HL2:Hid (lh w0 G (qHo H []) f1 f3' hs nm D w2):=hl
 have HG:Hid (∀ g,a=some ⟨g,0,none⟩→w.heap.size≤g∧g<w2.heap.size):=fun g e=>⟨Nat.le_trans HZ.out (hg g e),hd.hi g e⟩
 have HZ2:Hid (w.heap.size≤w2.heap.size):=Nat.le_trans HZ.out hz
 have hn1:=HN.out.2
 clear hg hd hl hz HTK HLd y12 HZ
 have HUU:Hid (w2.heap.size≤w2.heap.size):=Nat.le_refl _
 obtain⟨U,hU⟩ : ∃ U,U=w2.heap.size:=⟨_,rfl⟩
 rw[← hU] at HD0 HG HZ2
 have HU:Hid (U≤w2.heap.size):=by show U≤_;omega
 clear hU HUU
 go_wp2_with fail
 go_loopw [16] (fun i wr=>∃ (k:Nat) (he:Nat→Hd),k≤n∧i = .int .i64 (k:Int)∧dx8 w0 U a n c H.qu he k wr∧lh w0 G (qHo H []) f1 f3' hs nm D wr∧U≤wr.heap.size) (fun i _=>n-(intOf i).toNat)
 case atStart=>exact⟨0,he0,Nat.zero_le _,rfl,HD0.out,HL2.out,HU.out⟩
 case round=>
  obtain⟨k,he,hk,rfl,hd,hl,hz⟩:=hrel
  have HDk:Hid (dx8 w0 U a n c H.qu he k wr):=hd
  have HLk:Hid (lh w0 G (qHo H []) f1 f3' hs nm D wr):=hl
  have HZk:Hid (U≤wr.heap.size):=hz
  clear hd hl hz HD0 HL2 HU
  by_cases hlt:k<n
  ·obtain⟨gx,hgx⟩ : ∃ gx,a=some ⟨gx,0,none⟩:=by
    rcases HDk.out with⟨_,e,_⟩|⟨g,e,_⟩
    ·omega
    ·exact⟨g,e⟩
   have hcc:n≤c:=by
    rcases HDk.out with⟨_,e,_⟩|⟨g,e,h1,_⟩
    ·omega
    ·exact h1
   have HOD:Hid (Calls Tryz.prog 48 #[.pointer (some ⟨gx,k*8+3,none⟩)] wr fun e w'=>∃ he',e = .returned (.tuple #[])∧dx8 w0 U a n c H.qu he' (k+1) w'∧lh w0 G (qHo H []) f1 f3' hs nm D w'∧U≤w'.heap.size):=by
    have hdr:dr8 w0 U gx n H.qu he k wr:=by
     rcases HDk.out with⟨e,_⟩|⟨g,e,_,h2⟩
     ·rw[hgx] at e;cases e
     ·rw[hgx] at e;cases e;exact h2
    refine (ownE HLk.out HLU.out hdr (HG.out gx hgx).1 (HG.out gx hgx).2 HZk.out hlt (c:=c)).mono ?_
    rintro e w' ⟨he',rfl,h1,h2,h3⟩
    exact⟨he',rfl,Or.inr ⟨gx,hgx,hcc,h1⟩,h2,h3⟩
   have HA:Hid (a=some ⟨gx,0,none⟩):=hgx
   subst hgx
   go_wp2_with (first | (go_at_call 48;refine HOD.out.mono ?_;rintro o w5 ⟨he',rfl,hd5,hl5,hz5⟩;have HD5:Hid (dx8 w0 U (some ⟨gx,0,none⟩) n c H.qu he' (k+1) w5):=hd5;have HL5:Hid (lh w0 G (qHo H []) f1 f3' hs nm D w5):=hl5;have HZ5:Hid (U≤w5.heap.size):=hz5;clear hd5 hl5 hz5))
   go_roundw
   case rel=>exact⟨k+1,he',by omega,by go_num,HD5.out,HL5.out,HZ5.out⟩
   case measure=>simp[intOf];omega
  ·have hkn:n=k:=by omega
   subst hkn
   go_wp2_with fail
   go_ret
   exact⟨a,c,he,U,rfl,HDk.out,HG.out,HZ2.out,f3',HLk.out⟩
theorem isBytes.farE {W V:World} {a:Option Addr} {n cap:Nat} {l:List Nat} (h:isBytes W a n cap l) {x:Nat} {a':Option Addr} {n' c':Nat} {T:TypeId} (hx:blk W x [.slice a' n' c'] T) (hV:∀ q,q≠x→q<W.heap.size→V.heap[q]?=W.heap[q]?):isBytes V a n cap l:=by
 refine⟨h.len,h.cap,h.small,fun hne=>?_⟩
 obtain⟨g,off,e,hc⟩:=h.cells hne
 refine⟨g,off,e,fun j hj=>?_⟩
 have hcj:=hc j hj
 have hg:g≠x:=by
  rintro rfl
  have hm:(Value.int .u8 (l[j]:Int)) ∈ [Value.slice a' n' c']:=by
   unfold blk at hx
   unfold World.cell? at hcj
   rw[hx] at hcj
   simp at hcj
   exact List.mem_of_getElem? hcj
  simp at hm
 have hlt:g<W.heap.size:=by
  unfold World.cell? at hcj
  by_cases hlt:g<W.heap.size
  ·exact hlt
  ·rw[Array.getElem?_eq_none (by show _≤g;omega)] at hcj
   cases hcj
 unfold World.cell? at hcj ⊢
 rw[hV g hg hlt]
 exact hcj
theorem below_both {w0 W:World} (h:Below w0.heap.size w0 W) {x:Nat} {L:List Value} {T:TypeId} (hx:blk w0 x L T) (v:Value):Below (w0.setCell ⟨x,0,none⟩ v).heap.size (w0.setCell ⟨x,0,none⟩ v) (W.setCell ⟨x,0,none⟩ v):=by
 have hz:(w0.setCell ⟨x,0,none⟩ v).heap.size=w0.heap.size:=by simp
 have hz2:(W.setCell ⟨x,0,none⟩ v).heap.size=W.heap.size:=by simp
 have h1:Below x w0 (w0.setCell ⟨x,0,none⟩ v):=(Below.refl _ _).setCell (by exact Nat.le_refl _) _
 have h2:Below x W (W.setCell ⟨x,0,none⟩ v):=(Below.refl _ _).setCell (by exact Nat.le_refl _) _
 refine⟨(h2.os.trans h.os).trans h1.os.symm,(h2.tape.trans h.tape).trans h1.tape.symm,(h2.output.trans h.output).trans h1.output.symm,by rw[hz,hz2];exact h.size,fun k hk=>?_⟩
 rw[hz] at hk
 by_cases e:k=x
 ·subst e
  have q1:blk (w0.setCell ⟨k,0,none⟩ v) k (L.set 0 v) T:=hx.set 0 v
  have q2:blk (W.setCell ⟨k,0,none⟩ v) k (L.set 0 v) T:=(hx.below h).set 0 v
  unfold blk at q1 q2
  rw[q1,q2]
 ·rw[heap_setCell_other _ _ _ _ (by exact e),heap_setCell_other _ _ _ _ (by exact e)]
  exact h.block k hk
theorem lh.ev {w0:World} {G:Lg} {H:Ho} {f1 f3:Nat} {hs:Nat→Hd} {nm:Nat} {D:DataW Unit} {W:World} (h:lh w0 G H f1 f3 hs nm D W) {x:Nat} {a':Option Addr} {n' c':Nat} {T:TypeId} (hx:blk w0 x [.slice a' n' c'] T) (v:Value):lh (w0.setCell ⟨x,0,none⟩ v) G H f1 f3 hs nm D (W.setCell ⟨x,0,none⟩ v):=by
 obtain⟨l1,l2,l3⟩:=h.d.lo
 obtain⟨d1,d2,d3⟩:=h.d.g
 have hxl:=hx.lt
 have he:∀ q,q≠x→(W.setCell ⟨x,0,none⟩ v).heap[q]?=W.heap[q]?:=fun q hq=>heap_setCell_other _ _ _ _ (by exact hq)
 have hz:(w0.setCell ⟨x,0,none⟩ v).heap.size=w0.heap.size:=by simp
 have hz2:(W.setCell ⟨x,0,none⟩ v).heap.size=W.heap.size:=by simp
 have hb:=below_both h.b hx v
 have hby:∀ {a:Option Addr} {n cap:Nat} {l:List Nat},isBytes w0 a n cap l→isBytes (w0.setCell ⟨x,0,none⟩ v) a n cap l:=fun hh=>hh.farE hx (fun q h1 _=>heap_setCell_other _ _ _ _ (by exact h1))
 refine⟨h.p.kept (he _ (by omega)),h.f.same (he _ (by omega)),⟨h.x.len,h.x.row.up (he _ (by omega)),fun j hj=>rangeAt.up (h.x.rng j hj) (he _ (by omega)),fun j hj hk=>hby (h.x.old j hj hk),fun j hj hk=>absurd hk (Nat.not_lt_zero _),h.x.dst,by rw[hz];exact h.x.lo,by rw[hz2];exact h.x.hi,hb,h.x.sm⟩,fun i hi=>?_,h.rz.up (he _ (by omega)),fun i hi=>?_,h.qz.up (he _ (by omega)),?_,hb,by rw[hz2];exact h.hi,⟨h.d.p,h.d.m,h.d.g,by rw[hz];exact h.d.lo⟩,h.bd⟩
 ·obtain⟨ao,m,c,h1,h2⟩:=h.r i hi
  exact⟨ao,m,c,rangeAt.up h1 (he _ (by omega)),hby h2⟩
 ·obtain⟨ao,m,c,h1,h2⟩:=h.q i hi
  exact⟨ao,m,c,rangeAt.up h1 (he _ (by omega)),hby h2⟩
 ·obtain⟨es,clock,q1,q2⟩:=h.m
  exact⟨es,clock,(he _ (by omega)).trans q1,q2⟩
structure evQ (B C:Nat) (q:List R8) (a:Option Addr) (c:Nat) (he:Nat→Hd) (W:World):Prop where
 sx:sx8 W a q.length c he
 is:isR8s W a q.length c q
 d:dst he q.length
 i:inn B C a q.length he
theorem evQ.same {B C:Nat} {q:List R8} {a:Option Addr} {c:Nat} {he:Nat→Hd} {W V:World} (h:evQ B C q a c he W) (hV:∀ x,B≤x→x<C→V.heap[x]?=W.heap[x]?):evQ B C q a c he V:=
 ⟨h.sx.same (fun x hx=>hV x (h.i x hx).1 (h.i x hx).2),h.is.same h.sx (fun x hx=>hV x (h.i x hx).1 (h.i x hx).2),h.d,h.i⟩
theorem evQ.mono {B C B' C':Nat} {q:List R8} {a:Option Addr} {c:Nat} {he:Nat→Hd} {W:World} (h:evQ B C q a c he W) (hB:B'≤B) (hC:C≤C'):evQ B' C' q a c he W:=
 ⟨h.sx,h.is,h.d,fun x hx=>⟨Nat.le_trans hB (h.i x hx).1,Nat.lt_of_lt_of_le (h.i x hx).2 hC⟩⟩
theorem dx8.evQ {b0 W:World} {U B:Nat} {a:Option Addr} {c:Nat} {q:List R8} {he:Nat→Hd} (h:dx8 b0 U a q.length c q he q.length W) (hg:∀ g,a=some ⟨g,0,none⟩→B≤g∧g<U) (hU:B≤U):evQ B W.heap.size q a c he W:=by
 obtain⟨q1,q2,q3,q4⟩:=h.sx (fun g e=>(hg g e).2)
 refine⟨q1,q2,q3,fun x hx=>?_⟩
 rcases hx with e|⟨j,hj,e⟩
 ·exact⟨(hg x e).1,h.hi x e⟩
 ·have:=q4 j hj x e
  omega
set_option maxHeartbeats 4000000 in
set_option maxRecDepth 20000 in
theorem lit67 {w0:World} {G:Lg} {H:Ho} {f1 f3:Nat} {hs:Nat→Hd} {nm:Nat} {D:DataW Unit} {w:World} (h:lh w0 G H f1 f3 hs nm D w) (Ev:Nat) (hev:blk w0 Ev [.slice none 0 0] 28) :
  Calls Tryz.prog 26 #[.pointer (some ⟨G.P,0,none⟩),.pointer (some ⟨Ev,0,none⟩)] w fun e w'=>e = .returned (.tuple #[])∧∃ a c he f3',evQ w0.heap.size w'.heap.size H.qu a c he w'∧lh (w0.setCell ⟨Ev,0,none⟩ (.slice a H.qu.length c)) G (qHo H []) f1 f3' hs nm D w':=by
 have HS:Hid (Calls Tryz.prog 27 #[.pointer (some ⟨G.P,0,none⟩)] w fun e w'=>∃ a c he f3',e = .returned (.slice a H.qu.length c)∧evQ w0.heap.size w'.heap.size H.qu a c he w'∧lh w0 G (qHo H []) f1 f3' hs nm D w'):=by
  refine (drain_any h).mono ?_
  rintro e w' ⟨a,c,he,U,rfl,h1,h2,h3,f3',h4⟩
  have hz:=h.b.size
  exact⟨a,c,he,f3',rfl,h1.evQ (fun g e=>⟨Nat.le_trans hz (h2 g e).1,(h2 g e).2⟩) (Nat.le_trans hz h3),h4⟩
 have HEV:Hid (blk w0 Ev [.slice none 0 0] 28):=hev
 have HEL:Hid (Ev<w0.heap.size):=hev.lt
 clear h hev
 go_enter Tryz.func26,Tryz.ntmps26
 go_wp2_with (first | (go_at_call 27;refine HS.out.mono ?_;rintro o w5 ⟨a,c,he,f3',rfl,hq,hl⟩;have HQ:Hid (evQ w0.heap.size w5.heap.size H.qu a c he w5):=hq;have HL:Hid (lh w0 G (qHo H []) f1 f3' hs nm D w5):=hl;have xE:=(HEV.out.below hl.b).cell 0 _ rfl;have zE:=(HEV.out.below hl.b).free 0;clear hq hl))
 first | go_end0 | (simp only[Exit.inBlock,Exit.then];refine bodyPost_ret (results_none rfl _ _ _) rfl ?_) | refine bodyPost_ret (results_none rfl _ _ _) rfl ?_
 have hz2:(w5.setCell ⟨Ev,0,none⟩ (.slice a H.qu.length c)).heap.size=w5.heap.size:=by simp
 refine⟨rfl,a,c,he,f3',?_,HL.out.ev HEV.out _⟩
 rw[hz2]
 exact HQ.out.same (fun x h1 _=>heap_setCell_other _ _ _ _ (by show x≠Ev;have:=HEL.out;omega))
theorem open_drain (w:World) (H:Ho) (s:Sl) (Ev:Nat) (h:isHo w H s) (hs:slSome s) (hok:okHo H) (hm:H.le 1048576) (hev:blk w Ev [.slice none 0 0] 28) :
  Calls Tryz.prog 45 #[.agg (hoL H s).toArray] w fun o w'=>∃ Pp,o = .returned (.pointer (some ⟨Pp,0,none⟩))∧Calls Tryz.prog 26 #[.pointer (some ⟨Pp,0,none⟩),.pointer (some ⟨Ev,0,none⟩)] w' fun o w2=>o = .returned (.tuple #[])∧∃ a c he,evQ w.heap.size w2.heap.size H.qu a c he w2∧Below (w.setCell ⟨Ev,0,none⟩ (.slice a H.qu.length c)).heap.size (w.setCell ⟨Ev,0,none⟩ (.slice a H.qu.length c)) w2∧Calls Tryz.prog 46 #[.pointer (some ⟨Pp,0,none⟩)] w2 (toldQ w2 (qHo H [])):=by
 refine (open_lh w H s h hs hok hm).mono ?_
 rintro o w' ⟨G,hd,rfl,hl,hn⟩
 refine⟨G.P,rfl,(lit67 hl Ev hev).mono ?_⟩
 rintro o w2 ⟨rfl,a,c,he,f3',h1,h2⟩
 exact⟨rfl,a,c,he,h1,h2.b,h2.told⟩
end Go.Proofs.YtgkkcpgocbcbaaaGreat
