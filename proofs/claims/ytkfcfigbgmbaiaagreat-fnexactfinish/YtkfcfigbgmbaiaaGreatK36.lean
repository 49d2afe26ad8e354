import Derived.Test.YtkfcfigbgmbaiaaGreatK35
import Derived.Test.YtkfcfigbgmbaiaaGreatK33
import Derived.Deep.RegionHeld3
namespace Go.Proofs.YtkfcfigbgmbaiaaGreat
open Go.RowKit
set_option linter.unusedVariables false
set_option maxHeartbeats 16000000
def tellC (C:Co) (b:Int):Co:=if stZ C.te C.re=b then C else { C with ho:=postHo C.ho ⟨10,stZ C.te C.re,0,false,0,false,0,[]⟩ }
set_option maxRecDepth 20000 in
theorem tell_any {w0:World} {M:Nat} {G:Lg} {C:Co} {f1 f3:Nat} {hs:Nat→Hd} {nm:Nat} {D:DataW Unit} {W:World} (h:mc w0 M G C f1 f3 hs nm D W) (b:Int):Calls Tryz.prog 145 #[.pointer (some ⟨M,0,none⟩),.int .i64 b] W fun o w'=>o = .returned (.tuple #[])∧mc w0 M G (tellC C b) f1 f3 hs nm D w':=by
 have HS:Hid (Calls Tryz.prog 106 #[.pointer (some ⟨M,0,none⟩)] W fun o w'=>o = .returned (.int .i64 (stZ C.te C.re))∧mc w0 M G C f1 f3 hs nm D w'∧Below W.heap.size W w'):=state_any h
 have HP:Hid (∀ X,mc w0 M G C f1 f3 hs nm D X→Calls Tryz.prog 87 #[.pointer (some ⟨G.P,0,none⟩),.agg #[.int .i64 10,.int .i64 (stZ C.te C.re),.int .i64 0,.bool false,.int .u32 0,.bool false,.int .i64 0,.slice none 0 0]] X fun o w'=>o = .returned (.tuple #[])∧mc w0 M G { C with ho:=postHo C.ho ⟨10,stZ C.te C.re,0,false,0,false,0,[]⟩ } f1 f3 hs nm D w'):=fun X hX=>hX.post 10 (stZ C.te C.re)
 have HT:Hid (tellC C b=if stZ C.te C.re=b then C else { C with ho:=postHo C.ho ⟨10,stZ C.te C.re,0,false,0,false,0,[]⟩ }):=rfl
 clear h;generalize stZ C.te C.re=z at *;by_cases e:z=b
 ·subst e;have HT2:Hid (tellC C z=C):=by have:=HT.out;rw[if_pos rfl] at this;exact this
  go_enter Tryz.func145,Tryz.ntmps145
  go_wp2_with fail;refine HS.out.mono ?_
  rintro o w1 ⟨rfl,h1,hb⟩;have H1:Hid (mc w0 M G C f1 f3 hs nm D w1):=h1
  clear h1 hb HS;go_wp2_with fail;first | go_end0 | (try simp only[Exit.inBlock,Exit.then]);refine bodyPost_ret (results_none rfl _ _ _) rfl ?_
  exact⟨rfl,by rw[HT2.out];exact H1.out⟩
 ·have d1:(z == b)=false:=by simpa using e
  have d2:(z != b)=true:=by simpa using e
  have HT2:Hid (tellC C b = { C with ho:=postHo C.ho ⟨10,z,0,false,0,false,0,[]⟩ }):=by have:=HT.out;rw[if_neg e] at this;exact this
  go_enter Tryz.func145,Tryz.ntmps145
  go_wp2_with fail;refine HS.out.mono ?_
  rintro o w1 ⟨rfl,h1,hb⟩;have H1:Hid (mc w0 M G C f1 f3 hs nm D w1):=h1
  have y0:=h1.m.cell 0 (.pointer (some ⟨G.P,0,none⟩)) rfl
  clear h1 hb HS;go_wp2_with fail;refine (HP.out _ H1.out).mono ?_
  rintro o w2 ⟨rfl,h2⟩;have H2:Hid (mc w0 M G { C with ho:=postHo C.ho ⟨10,z,0,false,0,false,0,[]⟩ } f1 f3 hs nm D w2):=h2
  clear h2 HP;go_wp2_with fail;first | go_end0 | (try simp only[Exit.inBlock,Exit.then]);refine bodyPost_ret (results_none rfl _ _ _) rfl ?_
  exact⟨rfl,by rw[HT2.out];exact H2.out⟩
theorem goOff_any {w0:World} {M:Nat} {G:Lg} {C:Co} {f1 f3:Nat} {hs:Nat→Hd} {nm:Nat} {D:DataW Unit} {W:World} (h:mc w0 M G C f1 f3 hs nm D W):Calls Tryz.prog 154 #[.pointer (some ⟨M,0,none⟩)] W fun o w'=>o = .returned (.tuple #[])∧mc w0 M G { C with te:=256 } f1 f3 hs nm D w':=by
 have H1:Hid (mc w0 M G { C with te:=256 } f1 f3 hs nm D (W.setCell ⟨M,1,none⟩ (.int .i64 256))):=h.set 1 (.int .i64 256) rfl rfl
 have y1:=h.m.cell 1 (.int .i64 C.te) rfl
 have f1:=h.m.free 1
 clear h;go_enter Tryz.func154,Tryz.ntmps154
 go_wp2_with fail;first | go_end0 | (try simp only[Exit.inBlock,Exit.then]);refine bodyPost_ret (results_none rfl _ _ _) rfl ?_
 exact⟨rfl,H1.out⟩
def addC (C:Co) (tx:Bool) (n:Int):Co:=if tx then { C with te:=if 256≤C.te+n then 256 else C.te+n } else { C with re:=min (C.re+n) 255 }
set_option maxRecDepth 20000 in
theorem add_any {w0:World} {M:Nat} {G:Lg} {C:Co} {f1 f3:Nat} {hs:Nat→Hd} {nm:Nat} {D:DataW Unit} {W:World} (h:mc w0 M G C f1 f3 hs nm D W) (tx:Bool) (n:Int) (hn:0≤n∧n≤8) (ht:0≤C.te∧C.te≤256) (hr:0≤C.re∧C.re≤255):Calls Tryz.prog 107 #[.pointer (some ⟨M,0,none⟩),.bool tx,.int .i64 n] W fun o w'=>o = .returned (.tuple #[])∧mc w0 M G (addC C tx n) f1 f3 hs nm D w':=by
 have y1:=h.m.cell 1 (.int .i64 C.te) rfl
 have y2:=h.m.cell 2 (.int .i64 C.re) rfl
 have g1:=h.m.free 1
 have g2:=h.m.free 2
 cases tx
 ·have HA:Hid (addC C false n = { C with re:=min (C.re+n) 255 }):=rfl
  have H1:Hid (mc w0 M G { C with re:=min (C.re+n) 255 } f1 f3 hs nm D (W.setCell ⟨M,2,none⟩ (.int .i64 (min (C.re+n) 255)))):=h.set 2 (.int .i64 (min (C.re+n) 255)) rfl rfl
  have hw:IntKind.i64.wrap (C.re+n)=C.re+n:=by rw[IntKind.wrap_i64];omega
  generalize C.re=re at *;clear h ht hr hn;go_enter Tryz.func107,Tryz.ntmps107
  go_wp2_with fail;first | go_end0 | (try simp only[Exit.inBlock,Exit.then]);refine bodyPost_ret (results_none rfl _ _ _) rfl ?_
  exact⟨rfl,by rw[HA.out];exact H1.out⟩
 ·have h1:mc w0 M G { C with te:=C.te+n } f1 f3 hs nm D (W.setCell ⟨M,1,none⟩ (.int .i64 (C.te+n))):=h.set 1 (.int .i64 (C.te+n)) rfl rfl
  have hw:IntKind.i64.wrap (C.te+n)=C.te+n:=by rw[IntKind.wrap_i64];omega
  by_cases hb:256≤C.te+n
  ·have HA:Hid (addC C true n = { C with te:=256 }):=by show addC C true n=_;unfold addC;rw[if_pos rfl,if_pos hb]
   have HG:Hid (Calls Tryz.prog 154 #[.pointer (some ⟨M,0,none⟩)] (W.setCell ⟨M,1,none⟩ (.int .i64 (C.te+n))) fun o w'=>o = .returned (.tuple #[])∧mc w0 M G { C with te:=256 } f1 f3 hs nm D w'):=goOff_any (C:={ C with te:=C.te+n }) h1
   have db:decide (256≤C.te+n)=true:=by simpa using hb
   clear h ht hr hn h1;generalize C.te=te at *;go_enter Tryz.func107,Tryz.ntmps107
   go_wp2_with fail;refine HG.out.mono ?_
   rintro o w2 ⟨rfl,h2⟩;have H2:Hid (mc w0 M G { C with te:=256 } f1 f3 hs nm D w2):=h2
   clear h2;go_wp2_with fail;first | go_end0 | (try simp only[Exit.inBlock,Exit.then]);refine bodyPost_ret (results_none rfl _ _ _) rfl ?_
   exact⟨rfl,by rw[HA.out];exact H2.out⟩
  ·have HA:Hid (addC C true n = { C with te:=C.te+n }):=by show addC C true n=_;unfold addC;rw[if_pos rfl,if_neg hb]
   have H1:Hid (mc w0 M G { C with te:=C.te+n } f1 f3 hs nm D (W.setCell ⟨M,1,none⟩ (.int .i64 (C.te+n)))):=h1
   have db:decide (256≤C.te+n)=false:=by simpa using hb
   clear h ht hr hn h1;generalize C.te=te at *;go_enter Tryz.func107,Tryz.ntmps107
   go_wp2_with fail;first | go_end0 | (try simp only[Exit.inBlock,Exit.then]);refine bodyPost_ret (results_none rfl _ _ _) rfl ?_
   exact⟨rfl,by rw[HA.out];exact H1.out⟩
set_option maxRecDepth 20000 in
theorem release_fr {w0:World} {G:Lg} {H:Ho} {f1 f3:Nat} {hs:Nat→Hd} {nm:Nat} {D:DataW Unit} {W:World} (h:lh w0 G H f1 f3 hs nm D W) (sent:Bool) (hwf:∀ j (hj:j<H.bx.length),(Lit.int .i64 H.bx[j].y).wf=true) :
  Calls Tryz.prog 105 #[.pointer (some ⟨G.P,0,none⟩),.bool sent] W fun o w'=>o = .returned (.tuple #[])∧(∃ hs' D',lh w0 G (relHo H sent) f1 f3 hs' nm D' w')∧(∀ q,q≠G.P→q≠G.gq→q≠G.gb→q≠G.mb→q<W.heap.size→w'.heap[q]?=W.heap[q]?):=by
 have HOW:Hid (Calls Tryz.prog 152 #[.pointer (some ⟨G.P,0,none⟩)] W fun o w'=>∃ z:Int,o = .returned (.int .i64 z)∧bsy H.bx z∧Below W.heap.size W w'):=onWire_any W G.P _ G.n2 G.kb H.bx (h.p.cell 5 _ rfl) (h.x.is h.bd.nk) (by have:=h.bd.m2;omega)
 have HL:Hid (lh w0 G H f1 f3 hs nm D W):=h
 have HWF:Hid (∀ j (hj:j<H.bx.length),(Lit.int .i64 H.bx[j].y).wf=true):=hwf
 clear h hwf;go_enter Tryz.func105,Tryz.ntmps105
 go_wp2_with fail;refine HOW.out.mono ?_
 rintro o w5 ⟨z,rfl,hz,hb5⟩;have HL5:Hid (lh w0 G H f1 f3 hs nm D w5):=HL.out.below hb5
 have HF5:Hid (Below W.heap.size W w5):=hb5
 have hR:=hz.ix
 clear HOW HL hz hb5;rcases hR with⟨rfl,hno⟩|⟨rfl,hk⟩
 ·have HT:Hid (relHo H sent=H):=relHo_none hno
  go_wp2_with fail;first | go_end0 | (try simp only[Exit.inBlock,Exit.then]);refine bodyPost_ret (results_none rfl _ _ _) rfl ?_
  exact⟨rfl,⟨hs,D,by rw[HT.out];exact HL5.out⟩,fun q _ _ _ _ h=>HF5.out.block q h⟩
 ·have hon:=wireIx_on hk
  generalize ek:wireIx H.bx=k at *;have HEK:Hid (wireIx H.bx=k):=ek
  clear ek;obtain⟨b,eb⟩ : ∃ b,H.bx[k]=b:=⟨_,rfl⟩
  obtain⟨ao,m,c,eh⟩ : ∃ ao m c,hs k=(ao,m,c):=⟨_,_,_,rfl⟩
  have HV:Hid (Calls Tryz.prog 153 #[.pointer (some ⟨G.P,0,none⟩),.int .i64 (k:Int)] w5 fun o w'=>o = .returned (.agg #[.int .i64 b.x,.int .i64 b.y,.int .i64 b.z,.bool b.e,.int .u32 (b.i:Int),.bool b.r,.int .i64 b.d,.slice ao m c])∧lh w0 G (freeHo H k) f1 f3 (fun j=>if j=k then (none,0,0) else hs j) nm (D.del (.int .i64 b.y)) w'∧(∀ q,q≠G.gb→q≠G.mb→q<w5.heap.size→w'.heap[q]?=w5.heap[q]?)∧w5.heap.size≤w'.heap.size):=vacate_any HL5.out k hk b eb ao m c eh (by rw[← eb];exact HWF.out k hk)
  have HBY:Hid (isBytes w0 ao m c b.l∧b.l.length≤1048576):=by
   have h1:=HL5.out.x.old k hk (Nat.zero_le _)
   have h2:=HL5.out.x.sm k hk
   rw[eb,eh] at h1
   rw[eb] at h2
   exact⟨h1,h2⟩
  have HY0:Hid (w5.cell? ⟨G.gb,k*8,none⟩=some (.int .i64 b.x)):=by
   have:=HL5.out.x.rng k hk 0 _ rfl
   rw[eb] at this
   exact this
  have hf0:w5.frozen? ⟨G.gb,k*8,none⟩=false:=(HL5.out.x.row (k*8) (by have:=HL5.out.x.len;omega)).2
  have y5:=HL5.out.p.cell 5 _ rfl
  have hkn:k<G.n2:=by have:=HL5.out.x.len;omega
  have hcp:=HL5.out.bd.nk
  have hm2:=HL5.out.bd.m2
  have HEB:Hid (∃ hk:k<H.bx.length,H.bx[k]=b):=⟨hk,eb⟩
  have HKK:Hid (k<H.bx.length):=hk
  rw[eb] at hon
  clear eb eh;cases sent
  ·rcases hon with e0|e0
   ·have HT:Hid (relHo H false=stHo H k 1):=relHo_wait HKK.out HEK.out HEB.out.2 e0
    have y0:=HY0.out
    rw[e0] at y0
    go_wp2_with fail;first | go_end0 | (try simp only[Exit.inBlock,Exit.then]);refine bodyPost_ret (results_none rfl _ _ _) rfl ?_
    exact⟨rfl,⟨hs,D,by rw[HT.out];exact HL5.out.state k HKK.out 1⟩,fun q _ _ h3 _ h5=>(heap_setCell_other w5 ⟨G.gb,k*8,none⟩ q _ h3).trans (HF5.out.block q h5)⟩
   ·have HT:Hid (relHo H false=postHo (freeHo H k) (ev3 6 b.y 0)):=relHo_doom HKK.out HEK.out HEB.out.2 e0
    have y0:=HY0.out
    rw[e0] at y0
    go_wp2_with fail;refine HV.out.mono ?_
    rintro o w6 ⟨rfl,hl6,hk6,hz6⟩;have HF6:Hid ((∀ q,q≠G.gb→q≠G.mb→q<w5.heap.size→w6.heap[q]?=w5.heap[q]?)∧w5.heap.size≤w6.heap.size):=⟨hk6,hz6⟩
    clear hk6 hz6;have HP:Hid (Calls Tryz.prog 87 #[.pointer (some ⟨G.P,0,none⟩),.agg #[.int .i64 6,.int .i64 b.y,.int .i64 0,.bool false,.int .u32 0,.bool false,.int .i64 0,.slice none 0 0]] w6 fun o w'=>o = .returned (.tuple #[])∧lh w0 G (postHo (freeHo H k) (ev3 6 b.y 0)) f1 f3 (fun j=>if j=k then (none,0,0) else hs j) nm (D.del (.int .i64 b.y)) w'∧(∀ q,q≠G.P→q≠G.gq→q<w6.heap.size→w'.heap[q]?=w6.heap[q]?)∧w6.heap.size≤w'.heap.size):=hl6.post (ev3 6 b.y 0) none 0 0 (none8 _) (Nat.zero_le _)
    clear hl6 HV;have hfd:=field97 3 b.y b.z b.e b.i b.r b.d ao m c
    go_wp2_with fail;refine HP.out.mono ?_
    rintro o w7 ⟨rfl,hl7,hk7,_⟩;have HF7:Hid (∀ q,q≠G.P→q≠G.gq→q<w6.heap.size→w7.heap[q]?=w6.heap[q]?):=hk7
    clear hk7;have HL7:Hid (lh w0 G (postHo (freeHo H k) (ev3 6 b.y 0)) f1 f3 (fun j=>if j=k then (none,0,0) else hs j) nm (D.del (.int .i64 b.y)) w7):=hl7
    clear hl7 HP;go_wp2_with fail;first | go_end0 | (try simp only[Exit.inBlock,Exit.then]);refine bodyPost_ret (results_none rfl _ _ _) rfl ?_
    exact⟨rfl,⟨_,_,by rw[HT.out];exact HL7.out⟩,fun q a1 a2 a3 a4 a5=>(HF7.out q a1 a2 (by have:=HF6.out.2;have:=HF5.out.size;omega)).trans ((HF6.out.1 q a3 a4 (by have:=HF5.out.size;omega)).trans (HF5.out.block q a5))⟩
  ·have HT:Hid (relHo H true=postHo (freeHo H k) ⟨1,b.y,0,b.e,b.i,b.r,b.d,b.l⟩):=relHo_sent HKK.out HEK.out HEB.out.2
   obtain⟨bX,bY,bZ,bE,bI,bR,bD,bL⟩:=b
   go_wp2_with fail;refine HV.out.mono ?_
   rintro o w6 ⟨rfl,hl6,hk6,hz6⟩;have HF6:Hid ((∀ q,q≠G.gb→q≠G.mb→q<w5.heap.size→w6.heap[q]?=w5.heap[q]?)∧w5.heap.size≤w6.heap.size):=⟨hk6,hz6⟩
   clear hk6 hz6;have hbA:Below w6.heap.size w6 (w6.alloc (.cells [.int .i64 bX,.int .i64 bY,.int .i64 bZ,.bool bE,.int .u32 (bI:Int),.bool bR,.int .i64 bD,.slice ao m c].toArray 166)):=(Below.refl _ _).alloc (Nat.le_refl _) _
   have HP:Hid (Calls Tryz.prog 87 #[.pointer (some ⟨G.P,0,none⟩),.agg #[.int .i64 1,.int .i64 bY,.int .i64 0,.bool bE,.int .u32 (bI:Int),.bool bR,.int .i64 bD,.slice ao m c]] (w6.alloc (.cells [.int .i64 bX,.int .i64 bY,.int .i64 bZ,.bool bE,.int .u32 (bI:Int),.bool bR,.int .i64 bD,.slice ao m c].toArray 166)) fun o w'=>o = .returned (.tuple #[])∧lh w0 G (postHo (freeHo H k) ⟨1,bY,0,bE,bI,bR,bD,bL⟩) f1 f3 (fun j=>if j=k then (none,0,0) else hs j) nm (D.del (.int .i64 bY)) w'∧(∀ q,q≠G.P→q≠G.gq→q<(w6.alloc (.cells [.int .i64 bX,.int .i64 bY,.int .i64 bZ,.bool bE,.int .u32 (bI:Int),.bool bR,.int .i64 bD,.slice ao m c].toArray 166)).heap.size→w'.heap[q]?=(w6.alloc (.cells [.int .i64 bX,.int .i64 bY,.int .i64 bZ,.bool bE,.int .u32 (bI:Int),.bool bR,.int .i64 bD,.slice ao m c].toArray 166)).heap[q]?)∧(w6.alloc (.cells [.int .i64 bX,.int .i64 bY,.int .i64 bZ,.bool bE,.int .u32 (bI:Int),.bool bR,.int .i64 bD,.slice ao m c].toArray 166)).heap.size≤w'.heap.size):=(hl6.below hbA).post ⟨1,bY,0,bE,bI,bR,bD,bL⟩ ao m c HBY.out.1 HBY.out.2
   have HPB:Hid (blk (w6.alloc (.cells [.int .i64 bX,.int .i64 bY,.int .i64 bZ,.bool bE,.int .u32 (bI:Int),.bool bR,.int .i64 bD,.slice ao m c].toArray 166)) w6.heap.size [.int .i64 bX,.int .i64 bY,.int .i64 bZ,.bool bE,.int .u32 (bI:Int),.bool bR,.int .i64 bD,.slice ao m c] 166):=blk.new w6 _ 166
   have y1:(w6.alloc (.cells [.int .i64 bX,.int .i64 bY,.int .i64 bZ,.bool bE,.int .u32 (bI:Int),.bool bR,.int .i64 bD,.slice ao m c].toArray 166)).cell? ⟨w6.heap.size,1,none⟩=some (.int .i64 bY):=HPB.out.cell 1 _ rfl
   have HBA:Hid (Below w6.heap.size w6 (w6.alloc (.cells [.int .i64 bX,.int .i64 bY,.int .i64 bZ,.bool bE,.int .u32 (bI:Int),.bool bR,.int .i64 bD,.slice ao m c].toArray 166))):=hbA
   clear hl6 hbA HV;go_wp2_with (first
    | (refine wpList_load_mid (P:=Tryz.prog) rfl 55 _ rfl w6.heap.size 3 rfl [.bool bE,.int .u32 (bI:Int),.bool bR,.int .i64 bD,.slice ao m c] _ (blk.loadAt [.int .i64 bX,.int .i64 bY,.int .i64 bZ] [.bool bE,.int .u32 (bI:Int),.bool bR,.int .i64 bD,.slice ao m c] [] HPB.out) Tryz.underlying55 rfl sz93 ?_))
   refine HP.out.mono ?_
   rintro o w7 ⟨rfl,hl7,hk7,_⟩;have HF7:Hid (∀ q,q≠G.P→q≠G.gq→q<w6.heap.size→w7.heap[q]?=w6.heap[q]?):=fun q h1 h2 h3=>(hk7 q h1 h2 (Nat.lt_of_lt_of_le h3 HBA.out.size)).trans (HBA.out.block q h3)
   clear hk7 HBA;have HL7:Hid (lh w0 G (postHo (freeHo H k) ⟨1,bY,0,bE,bI,bR,bD,bL⟩) f1 f3 (fun j=>if j=k then (none,0,0) else hs j) nm (D.del (.int .i64 bY)) w7):=hl7
   clear hl7 HP;go_wp2_with fail;first | go_end0 | (try simp only[Exit.inBlock,Exit.then]);refine bodyPost_ret (results_none rfl _ _ _) rfl ?_
   exact⟨rfl,⟨_,_,by rw[HT.out];exact HL7.out⟩,fun q a1 a2 a3 a4 a5=>(HF7.out q a1 a2 (by have:=HF6.out.2;have:=HF5.out.size;omega)).trans ((HF6.out.1 q a3 a4 (by have:=HF5.out.size;omega)).trans (HF5.out.block q a5))⟩
theorem mc.release {w0:World} {M:Nat} {G:Lg} {C:Co} {f1 f3:Nat} {hs:Nat→Hd} {nm:Nat} {D:DataW Unit} {W:World} (h:mc w0 M G C f1 f3 hs nm D W) (sent:Bool) (hwf:∀ j (hj:j<C.ho.bx.length),(Lit.int .i64 C.ho.bx[j].y).wf=true) :
  Calls Tryz.prog 105 #[.pointer (some ⟨G.P,0,none⟩),.bool sent] W fun o w'=>o = .returned (.tuple #[])∧∃ hs' D',mc w0 M G { C with ho:=relHo C.ho sent } f1 f3 hs' nm D' w':=by
 refine (release_fr h.h sent hwf).mono ?_
 rintro o w' ⟨rfl,⟨hs',D',h1⟩,h2⟩;exact⟨rfl,hs',D',h.m.kept (h2 M h.o.1 h.o.2.2.2.2.2.1 h.o.2.2.2.1 h.o.2.1 h.m.lt),h1,h.o⟩
theorem mc.post2 {w0:World} {M:Nat} {G:Lg} {C:Co} {f1 f3:Nat} {hs:Nat→Hd} {nm:Nat} {D:DataW Unit} {W:World} (h:mc w0 M G C f1 f3 hs nm D W) (k a b:Int) :
  Calls Tryz.prog 87 #[.pointer (some ⟨G.P,0,none⟩),.agg #[.int .i64 k,.int .i64 a,.int .i64 b,.bool false,.int .u32 0,.bool false,.int .i64 0,.slice none 0 0]] W fun o w'=>o = .returned (.tuple #[])∧mc w0 M G { C with ho:=postHo C.ho (ev3 k a b) } f1 f3 hs nm D w':=by
 refine (h.h.post (ev3 k a b) none 0 0 (none8 _) (Nat.zero_le _)).mono ?_
 rintro o w' ⟨rfl,h1,h2,h3⟩;exact⟨rfl,h.m.kept (h2 M h.o.1 h.o.2.2.2.2.2.1 h.m.lt),h1,h.o⟩
end Go.Proofs.YtkfcfigbgmbaiaaGreat
