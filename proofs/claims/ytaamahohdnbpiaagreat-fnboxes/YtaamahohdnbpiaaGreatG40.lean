import Derived.Test.YtaamahohdnbpiaaGreatNS
import Derived.Test.YtaamahohdnbpiaaGreatG39
namespace Go.Proofs.YtaamahohdnbpiaaGreat
open Go.RowKit
set_option linter.unusedVariables false
theorem field97 (x y z:Int) (e:Bool) (i:Nat) (r:Bool) (d:Int) (ao:Option Addr) (m c:Nat):∀ w:World,(Instr.field 97 (.agg #[.int .i64 x,.int .i64 y,.int .i64 z,.bool e,.int .u32 (i:Int),.bool r,.int .i64 d,.slice ao m c]) 1).run Tryz.prog w = .ok (.int .i64 y) w:=fun _=>by kernel_rfl
theorem relHo_sent {H:Ho} {k:Nat} {b:R8} (hk:k<H.bx.length) (ek:wireIx H.bx=k) (eb:H.bx[k]=b):relHo H true=postHo (freeHo H k) ⟨1,b.y,0,b.e,b.i,b.r,b.d,b.l⟩:=by
 subst ek;subst eb;unfold relHo
 rw[dif_pos hk,if_pos rfl]
theorem relHo_doom {H:Ho} {k:Nat} {b:R8} (hk:k<H.bx.length) (ek:wireIx H.bx=k) (eb:H.bx[k]=b) (hx:b.x=3):relHo H false=postHo (freeHo H k) (ev3 6 b.y 0):=by
 subst ek;subst eb;unfold relHo
 rw[dif_pos hk,if_neg (by simp),if_pos hx]
theorem relHo_wait {H:Ho} {k:Nat} {b:R8} (hk:k<H.bx.length) (ek:wireIx H.bx=k) (eb:H.bx[k]=b) (hx:b.x=2):relHo H false=stHo H k 1:=by
 subst ek;subst eb;unfold relHo
 rw[dif_pos hk,if_neg (by simp),if_neg (by omega)]
set_option maxHeartbeats 8000000 in
set_option maxRecDepth 20000 in
theorem release_any {w0:World} {G:Lg} {H:Ho} {f1 f3:Nat} {hs:Nat→Hd} {nm:Nat} {D:DataW Unit} {W:World} (h:lh w0 G H f1 f3 hs nm D W) (sent:Bool) (hwf:∀ j (hj:j<H.bx.length),(Lit.int .i64 H.bx[j].y).wf=true) :
  Calls Tryz.prog 64 #[.pointer (some ⟨G.P,0,none⟩),.bool sent] W fun o w'=>o = .returned (.tuple #[])∧∃ hs' D',lh w0 G (relHo H sent) f1 f3 hs' nm D' w':=by
 have HOW:Hid (Calls Tryz.prog 131 #[.pointer (some ⟨G.P,0,none⟩)] W fun o w'=>∃ z:Int,o = .returned (.int .i64 z)∧bsy H.bx z∧Below W.heap.size W w'):=onWire_any W G.P _ G.n2 G.kb H.bx (h.p.cell 5 _ rfl) (h.x.is h.bd.nk) (by have:=h.bd.m2;omega)
 have HL:Hid (lh w0 G H f1 f3 hs nm D W):=h
 have HWF:Hid (∀ j (hj:j<H.bx.length),(Lit.int .i64 H.bx[j].y).wf=true):=hwf
 clear h hwf;go_enter Tryz.func64,Tryz.ntmps64
 go_wp2_with fail;refine HOW.out.mono ?_
 rintro o w5 ⟨z,rfl,hz,hb5⟩;have HL5:Hid (lh w0 G H f1 f3 hs nm D w5):=HL.out.below hb5
 have hR:=hz.ix
 clear HOW HL hz hb5;rcases hR with⟨rfl,hno⟩|⟨rfl,hk⟩
 ·have HT:Hid (relHo H sent=H):=relHo_none hno
  go_wp2_with fail;first | go_end0 | (simp only[Exit.inBlock,Exit.then];refine bodyPost_ret (results_none rfl _ _ _) rfl ?_) | refine bodyPost_ret (results_none rfl _ _ _) rfl ?_
  exact⟨rfl,hs,D,by rw[HT.out];exact HL5.out⟩
 ·have hon:=wireIx_on hk
  generalize ek:wireIx H.bx=k at *;have HEK:Hid (wireIx H.bx=k):=ek
  clear ek;obtain⟨b,eb⟩ : ∃ b,H.bx[k]=b:=⟨_,rfl⟩
  obtain⟨ao,m,c,eh⟩ : ∃ ao m c,hs k=(ao,m,c):=⟨_,_,_,rfl⟩
  have HV:Hid (Calls Tryz.prog 132 #[.pointer (some ⟨G.P,0,none⟩),.int .i64 (k:Int)] w5 fun o w'=>o = .returned (.agg #[.int .i64 b.x,.int .i64 b.y,.int .i64 b.z,.bool b.e,.int .u32 (b.i:Int),.bool b.r,.int .i64 b.d,.slice ao m c])∧lh w0 G (freeHo H k) f1 f3 (fun j=>if j=k then (none,0,0) else hs j) nm (D.del (.int .i64 b.y)) w'∧(∀ q,q≠G.gb→q≠G.mb→q<w5.heap.size→w'.heap[q]?=w5.heap[q]?)∧w5.heap.size≤w'.heap.size):=vacate_any HL5.out k hk b eb ao m c eh (by rw[← eb];exact HWF.out k hk)
  have HBY:Hid (isBytes w0 ao m c b.l∧b.l.length≤1048576):=by
   have h1:=HL5.out.x.old k hk (Nat.zero_le _)
   have h2:=HL5.out.x.sm k hk
   rw[eb,eh] at h1
   rw[eb] at h2
   exact⟨h1,h2⟩
  have HY0:Hid (w5.cell? ⟨G.gb,k*8,none⟩=some (.int .i64 b.x)):=by
   have:=HL5.out.x.rng k hk 0 _ rfl
   rw[eb] at this
   exact this
  have hf0:w5.frozen? ⟨G.gb,k*8,none⟩=false:=(HL5.out.x.row (k*8) (by have:=HL5.out.x.len;omega)).2
  have y5:=HL5.out.p.cell 5 _ rfl
  have hkn:k<G.n2:=by have:=HL5.out.x.len;omega
  have hcp:=HL5.out.bd.nk
  have hm2:=HL5.out.bd.m2
  have HEB:Hid (∃ hk:k<H.bx.length,H.bx[k]=b):=⟨hk,eb⟩
  have HKK:Hid (k<H.bx.length):=hk
  rw[eb] at hon
  clear eb eh;cases sent
  ·rcases hon with e0|e0
   ·have HT:Hid (relHo H false=stHo H k 1):=relHo_wait HKK.out HEK.out HEB.out.2 e0
    have y0:=HY0.out
    rw[e0] at y0
    go_wp2_with fail;first | go_end0 | (simp only[Exit.inBlock,Exit.then];refine bodyPost_ret (results_none rfl _ _ _) rfl ?_) | refine bodyPost_ret (results_none rfl _ _ _) rfl ?_
    exact⟨rfl,hs,D,by rw[HT.out];exact HL5.out.state k HKK.out 1⟩
   ·have HT:Hid (relHo H false=postHo (freeHo H k) (ev3 6 b.y 0)):=relHo_doom HKK.out HEK.out HEB.out.2 e0
    have y0:=HY0.out
    rw[e0] at y0
    go_wp2_with fail;refine HV.out.mono ?_
    rintro o w6 ⟨rfl,hl6,_,_⟩;have HP:Hid (Calls Tryz.prog 120 #[.pointer (some ⟨G.P,0,none⟩),.agg #[.int .i64 6,.int .i64 b.y,.int .i64 0,.bool false,.int .u32 0,.bool false,.int .i64 0,.slice none 0 0]] w6 fun o w'=>o = .returned (.tuple #[])∧lh w0 G (postHo (freeHo H k) (ev3 6 b.y 0)) f1 f3 (fun j=>if j=k then (none,0,0) else hs j) nm (D.del (.int .i64 b.y)) w'∧(∀ q,q≠G.P→q≠G.gq→q<w6.heap.size→w'.heap[q]?=w6.heap[q]?)∧w6.heap.size≤w'.heap.size):=hl6.post (ev3 6 b.y 0) none 0 0 (none8 _) (Nat.zero_le _)
    clear hl6 HV;have hfd:=field97 3 b.y b.z b.e b.i b.r b.d ao m c
    go_wp2_with fail;refine HP.out.mono ?_
    rintro o w7 ⟨rfl,hl7,_,_⟩;have HL7:Hid (lh w0 G (postHo (freeHo H k) (ev3 6 b.y 0)) f1 f3 (fun j=>if j=k then (none,0,0) else hs j) nm (D.del (.int .i64 b.y)) w7):=hl7
    clear hl7 HP;go_wp2_with fail;first | go_end0 | (simp only[Exit.inBlock,Exit.then];refine bodyPost_ret (results_none rfl _ _ _) rfl ?_) | refine bodyPost_ret (results_none rfl _ _ _) rfl ?_
    exact⟨rfl,_,_,by rw[HT.out];exact HL7.out⟩
  ·have HT:Hid (relHo H true=postHo (freeHo H k) ⟨1,b.y,0,b.e,b.i,b.r,b.d,b.l⟩):=relHo_sent HKK.out HEK.out HEB.out.2
   obtain⟨bX,bY,bZ,bE,bI,bR,bD,bL⟩:=b
   go_wp2_with fail;refine HV.out.mono ?_
   rintro o w6 ⟨rfl,hl6,_,_⟩;have hbA:Below w6.heap.size w6 (w6.alloc (.cells [.int .i64 bX,.int .i64 bY,.int .i64 bZ,.bool bE,.int .u32 (bI:Int),.bool bR,.int .i64 bD,.slice ao m c].toArray 97)):=(Below.refl _ _).alloc (Nat.le_refl _) _
   have HP:Hid (Calls Tryz.prog 120 #[.pointer (some ⟨G.P,0,none⟩),.agg #[.int .i64 1,.int .i64 bY,.int .i64 0,.bool bE,.int .u32 (bI:Int),.bool bR,.int .i64 bD,.slice ao m c]] (w6.alloc (.cells [.int .i64 bX,.int .i64 bY,.int .i64 bZ,.bool bE,.int .u32 (bI:Int),.bool bR,.int .i64 bD,.slice ao m c].toArray 97)) fun o w'=>o = .returned (.tuple #[])∧lh w0 G (postHo (freeHo H k) ⟨1,bY,0,bE,bI,bR,bD,bL⟩) f1 f3 (fun j=>if j=k then (none,0,0) else hs j) nm (D.del (.int .i64 bY)) w'∧(∀ q,q≠G.P→q≠G.gq→q<(w6.alloc (.cells [.int .i64 bX,.int .i64 bY,.int .i64 bZ,.bool bE,.int .u32 (bI:Int),.bool bR,.int .i64 bD,.slice ao m c].toArray 97)).heap.size→w'.heap[q]?=(w6.alloc (.cells [.int .i64 bX,.int .i64 bY,.int .i64 bZ,.bool bE,.int .u32 (bI:Int),.bool bR,.int .i64 bD,.slice ao m c].toArray 97)).heap[q]?)∧(w6.alloc (.cells [.int .i64 bX,.int .i64 bY,.int .i64 bZ,.bool bE,.int .u32 (bI:Int),.bool bR,.int .i64 bD,.slice ao m c].toArray 97)).heap.size≤w'.heap.size):=(hl6.below hbA).post ⟨1,bY,0,bE,bI,bR,bD,bL⟩ ao m c HBY.out.1 HBY.out.2
   have HPB:Hid (blk (w6.alloc (.cells [.int .i64 bX,.int .i64 bY,.int .i64 bZ,.bool bE,.int .u32 (bI:Int),.bool bR,.int .i64 bD,.slice ao m c].toArray 97)) w6.heap.size [.int .i64 bX,.int .i64 bY,.int .i64 bZ,.bool bE,.int .u32 (bI:Int),.bool bR,.int .i64 bD,.slice ao m c] 97):=blk.new w6 _ 97
   have y1:(w6.alloc (.cells [.int .i64 bX,.int .i64 bY,.int .i64 bZ,.bool bE,.int .u32 (bI:Int),.bool bR,.int .i64 bD,.slice ao m c].toArray 97)).cell? ⟨w6.heap.size,1,none⟩=some (.int .i64 bY):=HPB.out.cell 1 _ rfl
   clear hl6 hbA HV;go_wp2_with (first
    | (refine wpList_load_mid (P:=Tryz.prog) rfl 25 _ rfl w6.heap.size 3 rfl [.bool bE,.int .u32 (bI:Int),.bool bR,.int .i64 bD,.slice ao m c] _ (blk.loadAt [.int .i64 bX,.int .i64 bY,.int .i64 bZ] [.bool bE,.int .u32 (bI:Int),.bool bR,.int .i64 bD,.slice ao m c] [] HPB.out) Tryz.underlying25 rfl sz93 ?_))
   refine HP.out.mono ?_
   rintro o w7 ⟨rfl,hl7,_,_⟩;have HL7:Hid (lh w0 G (postHo (freeHo H k) ⟨1,bY,0,bE,bI,bR,bD,bL⟩) f1 f3 (fun j=>if j=k then (none,0,0) else hs j) nm (D.del (.int .i64 bY)) w7):=hl7
   clear hl7 HP;go_wp2_with fail;first | go_end0 | (simp only[Exit.inBlock,Exit.then];refine bodyPost_ret (results_none rfl _ _ _) rfl ?_) | refine bodyPost_ret (results_none rfl _ _ _) rfl ?_
   exact⟨rfl,_,_,by rw[HT.out];exact HL7.out⟩
set_option maxHeartbeats 1000000 in
theorem lit63 {w0:World} {G:Lg} {H:Ho} {f1 f3:Nat} {hs:Nat→Hd} {nm:Nat} {D:DataW Unit} {W:World} (h:lh w0 G H f1 f3 hs nm D W) (Bx:Nat) (sent:Bool) (yb:W.cell? ⟨Bx,0,none⟩=some (.bool sent)) (hwf:∀ j (hj:j<H.bx.length),(Lit.int .i64 H.bx[j].y).wf=true) :
  Calls Tryz.prog 63 #[.pointer (some ⟨G.P,0,none⟩),.pointer (some ⟨Bx,0,none⟩)] W fun o w'=>o = .returned (.tuple #[])∧∃ hs' D',lh w0 G (relHo H sent) f1 f3 hs' nm D' w':=by
 have HS:Hid (Calls Tryz.prog 64 #[.pointer (some ⟨G.P,0,none⟩),.bool sent] W fun o w'=>o = .returned (.tuple #[])∧∃ hs' D',lh w0 G (relHo H sent) f1 f3 hs' nm D' w'):=release_any h sent hwf
 clear h hwf;go_enter Tryz.func63,Tryz.ntmps63
 go_wp2_with (first | (go_at_call 64;refine HS.out.mono ?_;rintro o w5 ⟨rfl,hs',D',hq⟩;have HQ:Hid (lh w0 G (relHo H sent) f1 f3 hs' nm D' w5):=hq;clear hq))
 first | go_end0 | (simp only[Exit.inBlock,Exit.then];refine bodyPost_ret (results_none rfl _ _ _) rfl ?_) | refine bodyPost_ret (results_none rfl _ _ _) rfl ?_
 exact⟨rfl,hs',D',HQ.out⟩
theorem okBxs.wf {st:Int} {bx:List R8} (h:okBxs st bx):∀ j (hj:j<bx.length),(Lit.int .i64 bx[j].y).wf=true:=fun j hj=>by
 have:=h.1 j hj
 unfold okBx at this
 split at this
 ·rw[this.1]
  exact wf_small (by omega) (by omega)
 ·exact wf_small (by omega) (by omega)
theorem open_release (w:World) (H:Ho) (s:Sl) (Bx:Nat) (sent:Bool) (h:isHo w H s) (hs:slSome s) (hok:okHo H) (hm:H.le 1048576) (yb:w.cell? ⟨Bx,0,none⟩=some (.bool sent)) :
  Calls Tryz.prog 61 #[.agg (hoL H s).toArray] w fun o w'=>∃ P,o = .returned (.pointer (some ⟨P,0,none⟩))∧Below w.heap.size w w'∧Calls Tryz.prog 63 #[.pointer (some ⟨P,0,none⟩),.pointer (some ⟨Bx,0,none⟩)] w' fun o w2=>o = .returned (.tuple #[])∧Below w.heap.size w w2∧Calls Tryz.prog 118 #[.pointer (some ⟨P,0,none⟩)] w2 (toldQ w2 (relHo H sent)):=by
 refine (open_lh w H s h hs hok hm).mono ?_
 rintro o w' ⟨G,hd,rfl,hl,hn⟩;refine⟨G.P,rfl,hl.b,(lit63 hl Bx sent ((hl.b.cell (by exact World.block_lt_of_cell? w _ yb)).trans yb) hok.bx.wf).mono ?_⟩
 rintro o w2 ⟨rfl,hs',D',h2⟩;exact⟨rfl,h2.b,h2.told⟩
theorem zero3 (w:World):(zeroValue 3).run Tryz.prog w = .ok (.int .i64 0) w:=by kernel_rfl
theorem abHo_none {H:Ho} {t u:Int} (h:¬ tagIx H.bx t<H.bx.length) (hu:(if 0≤t∧t≤9999 then t else 0)=u):abHo H t=postHo H (ev3 7 u 0):=by
 unfold abHo
 rw[dif_neg h,hu]
theorem abHo_wait {H:Ho} {t:Int} {k:Nat} {b:R8} (hk:k<H.bx.length) (ek:tagIx H.bx t=k) (eb:H.bx[k]=b) (hx:b.x=1):abHo H t=postHo (freeHo H k) (ev3 6 t 0):=by
 subst ek;subst eb;unfold abHo
 rw[dif_pos hk,if_pos hx]
theorem abHo_doom {H:Ho} {t:Int} {k:Nat} {b:R8} (hk:k<H.bx.length) (ek:tagIx H.bx t=k) (eb:H.bx[k]=b) (hx:b.x≠1):abHo H t=stHo H k 3:=by
 subst ek;subst eb;unfold abHo
 rw[dif_pos hk,if_neg hx]
set_option maxHeartbeats 8000000 in
set_option maxRecDepth 20000 in
theorem abort_any {w0:World} {G:Lg} {H:Ho} {f1 f3:Nat} {hs:Nat→Hd} {nm:Nat} {D:DataW Unit} {W:World} (h:lh w0 G H f1 f3 hs nm D W) (t:Int) (hwt:(Lit.int .i64 t).wf=true) (hD:(tagIx H.bx t<H.bx.length∧Maps.has D (.int .i64 t)=true∧∀ z,D.atKey (.int .i64 t) z = .lit (.int .i64 (tagIx H.bx t:Int)))∨(¬ tagIx H.bx t<H.bx.length∧Maps.has D (.int .i64 t)=false)) (hwf:∀ j (hj:j<H.bx.length),(Lit.int .i64 H.bx[j].y).wf=true) :
  Calls Tryz.prog 75 #[.pointer (some ⟨G.P,0,none⟩),.int .i64 t] W fun o w'=>o = .returned (.tuple #[])∧∃ hs' D',lh w0 G (abHo H t) f1 f3 hs' nm D' w':=by
 have HL:Hid (lh w0 G H f1 f3 hs nm D W):=h
 have HWF:Hid (∀ j (hj:j<H.bx.length),(Lit.int .i64 H.bx[j].y).wf=true):=hwf
 have HK:Hid (keyOf Tryz.prog 3 (.int .i64 t)=some (.int .i64 t)):=key3 hwt
 have HM:Hid (W.ownsMap (H:=Unit) Tryz.prog 3 (plainElem Tryz.prog 3) G.mb nm D):=h.m
 have y6:=h.p.cell 6 _ rfl
 clear h hwf hwt;rcases hD with⟨hk,hh,ha⟩|⟨hk,hh⟩
 ·have hty:=tagIx_on hk
  generalize ek:tagIx H.bx t=k at *;have HEK:Hid (tagIx H.bx t=k):=ek
  clear ek;have HAT:Hid (∀ c:Int,D.atKey (.int .i64 t) (.lit (.int .i64 0)) = .lit (.int .i64 c)→c=(k:Int)):=fun c e=>by
   rw[ha] at e
   injection e with e
   injection e with _ e
   exact e.symm
  have HH:Hid (Maps.has D (.int .i64 t)=true):=hh
  clear hh ha;obtain⟨b,eb⟩ : ∃ b,H.bx[k]=b:=⟨_,rfl⟩
  obtain⟨ao,m,c,eh⟩ : ∃ ao m c,hs k=(ao,m,c):=⟨_,_,_,rfl⟩
  have HV:Hid (Calls Tryz.prog 132 #[.pointer (some ⟨G.P,0,none⟩),.int .i64 (k:Int)] W fun o w'=>o = .returned (.agg #[.int .i64 b.x,.int .i64 b.y,.int .i64 b.z,.bool b.e,.int .u32 (b.i:Int),.bool b.r,.int .i64 b.d,.slice ao m c])∧lh w0 G (freeHo H k) f1 f3 (fun j=>if j=k then (none,0,0) else hs j) nm (D.del (.int .i64 b.y)) w'∧(∀ q,q≠G.gb→q≠G.mb→q<W.heap.size→w'.heap[q]?=W.heap[q]?)∧W.heap.size≤w'.heap.size):=vacate_any HL.out k hk b eb ao m c eh (by rw[← eb];exact HWF.out k hk)
  have HY0:Hid (W.cell? ⟨G.gb,k*8,none⟩=some (.int .i64 b.x)):=by
   have:=HL.out.x.rng k hk 0 _ rfl
   rw[eb] at this
   exact this
  have hf0:W.frozen? ⟨G.gb,k*8,none⟩=false:=(HL.out.x.row (k*8) (by have:=HL.out.x.len;omega)).2
  have y5:=HL.out.p.cell 5 _ rfl
  have hkn:k<G.n2:=by have:=HL.out.x.len;omega
  have hcp:=HL.out.bd.nk
  have hm2:=HL.out.bd.m2
  have HEB:Hid (∃ hk:k<H.bx.length,H.bx[k]=b):=⟨hk,eb⟩
  have HKK:Hid (k<H.bx.length):=hk
  rw[eb] at hty
  have HTY:Hid (b.y=t):=hty.2
  clear eb eh hty;by_cases hx:b.x=1
  ·have HT:Hid (abHo H t=postHo (freeHo H k) (ev3 6 t 0)):=abHo_wait HKK.out HEK.out HEB.out.2 hx
   have y0:=HY0.out
   rw[hx] at y0
   go_enter Tryz.func75,Tryz.ntmps75
   go_wp2_with (first | (refine wpList_lookup_own_ok_int _ rfl _ _ 128 rfl 3 3 .i64 keyed3 Tryz.underlying128 Tryz.underlying3 (zero3 _) G.mb nm D rfl HM.out _ _ rfl HK.out ?_;intro c hat hwc;rw[HH.out];have hc:c=(k:Int):=HAT.out c hat;subst hc;clear hat hwc))
   refine HV.out.mono ?_
   rintro o w6 ⟨rfl,hl6,_,_⟩;rw[HTY.out] at hl6
   have HP:Hid (Calls Tryz.prog 120 #[.pointer (some ⟨G.P,0,none⟩),.agg #[.int .i64 6,.int .i64 b.y,.int .i64 0,.bool false,.int .u32 0,.bool false,.int .i64 0,.slice none 0 0]] w6 fun o w'=>o = .returned (.tuple #[])∧lh w0 G (postHo (freeHo H k) (ev3 6 b.y 0)) f1 f3 (fun j=>if j=k then (none,0,0) else hs j) nm (D.del (.int .i64 t)) w'∧(∀ q,q≠G.P→q≠G.gq→q<w6.heap.size→w'.heap[q]?=w6.heap[q]?)∧w6.heap.size≤w'.heap.size):=hl6.post (ev3 6 b.y 0) none 0 0 (none8 _) (Nat.zero_le _)
   clear hl6 HV;have hfd:=field97 1 t b.z b.e b.i b.r b.d ao m c
   rw[HTY.out] at HP
   have hty:b.y=t:=HTY.out
   go_wp2_with fail;refine HP.out.mono ?_
   rintro o w7 ⟨rfl,hl7,_,_⟩;have HL7:Hid (lh w0 G (postHo (freeHo H k) (ev3 6 t 0)) f1 f3 (fun j=>if j=k then (none,0,0) else hs j) nm (D.del (.int .i64 t)) w7):=hl7
   clear hl7 HP;go_wp2_with fail;first | go_end0 | (simp only[Exit.inBlock,Exit.then];refine bodyPost_ret (results_none rfl _ _ _) rfl ?_) | refine bodyPost_ret (results_none rfl _ _ _) rfl ?_
   exact⟨rfl,_,_,by rw[HT.out];exact HL7.out⟩
  ·have HT:Hid (abHo H t=stHo H k 3):=abHo_doom HKK.out HEK.out HEB.out.2 hx
   have y0:=HY0.out
   have hx':(b.x == 1)=false:=by simpa using hx
   go_enter Tryz.func75,Tryz.ntmps75
   go_wp2_with (first | (refine wpList_lookup_own_ok_int _ rfl _ _ 128 rfl 3 3 .i64 keyed3 Tryz.underlying128 Tryz.underlying3 (zero3 _) G.mb nm D rfl HM.out _ _ rfl HK.out ?_;intro c hat hwc;rw[HH.out];have hc:c=(k:Int):=HAT.out c hat;subst hc;clear hat hwc))
   first | go_end0 | (simp only[Exit.inBlock,Exit.then];refine bodyPost_ret (results_none rfl _ _ _) rfl ?_) | refine bodyPost_ret (results_none rfl _ _ _) rfl ?_
   exact⟨rfl,hs,D,by rw[HT.out];exact HL.out.state k HKK.out 3⟩
 ·have HH:Hid (Maps.has D (.int .i64 t)=false):=hh
  clear hh;by_cases h9:0≤t∧t≤9999
  ·have HIR:Hid (∀ X,Calls Tryz.prog 115 #[.int .i64 t,.int .i64 0,.int .i64 9999] X fun o w'=>o = .returned (.bool true)∧w'=X):=fun X=>(inRange_any X _ _ _).mono (by rintro o w' ⟨rfl,rfl⟩;exact⟨by simp;omega,rfl⟩)
   have HT:Hid (abHo H t=postHo H (ev3 7 t 0)):=abHo_none hk (if_pos h9)
   have HP:Hid (Calls Tryz.prog 120 #[.pointer (some ⟨G.P,0,none⟩),.agg #[.int .i64 7,.int .i64 t,.int .i64 0,.bool false,.int .u32 0,.bool false,.int .i64 0,.slice none 0 0]] W fun o w'=>o = .returned (.tuple #[])∧lh w0 G (postHo H (ev3 7 t 0)) f1 f3 hs nm D w'∧(∀ q,q≠G.P→q≠G.gq→q<W.heap.size→w'.heap[q]?=W.heap[q]?)∧W.heap.size≤w'.heap.size):=HL.out.post (ev3 7 t 0) none 0 0 (none8 _) (Nat.zero_le _)
   clear h9;go_enter Tryz.func75,Tryz.ntmps75
   go_wp2_with (first | (refine wpList_lookup_own_ok_int _ rfl _ _ 128 rfl 3 3 .i64 keyed3 Tryz.underlying128 Tryz.underlying3 (zero3 _) G.mb nm D rfl HM.out _ _ rfl HK.out ?_;intro c hat hwc;rw[HH.out]) | (go_at_call 115;refine (HIR.out _).mono ?_;rintro o w1 ⟨rfl,rfl⟩))
   refine HP.out.mono ?_
   rintro o w7 ⟨rfl,hl7,_,_⟩;have HL7:Hid (lh w0 G (postHo H (ev3 7 t 0)) f1 f3 hs nm D w7):=hl7
   clear hl7 HP;go_wp2_with fail;first | go_end0 | (simp only[Exit.inBlock,Exit.then];refine bodyPost_ret (results_none rfl _ _ _) rfl ?_) | refine bodyPost_ret (results_none rfl _ _ _) rfl ?_
   exact⟨rfl,_,_,by rw[HT.out];exact HL7.out⟩
  ·have HIR:Hid (∀ X,Calls Tryz.prog 115 #[.int .i64 t,.int .i64 0,.int .i64 9999] X fun o w'=>o = .returned (.bool false)∧w'=X):=fun X=>(inRange_any X _ _ _).mono (by rintro o w' ⟨rfl,rfl⟩;exact⟨by simp;omega,rfl⟩)
   have HT:Hid (abHo H t=postHo H (ev3 7 0 0)):=abHo_none hk (if_neg h9)
   have HP:Hid (Calls Tryz.prog 120 #[.pointer (some ⟨G.P,0,none⟩),.agg #[.int .i64 7,.int .i64 0,.int .i64 0,.bool false,.int .u32 0,.bool false,.int .i64 0,.slice none 0 0]] W fun o w'=>o = .returned (.tuple #[])∧lh w0 G (postHo H (ev3 7 0 0)) f1 f3 hs nm D w'∧(∀ q,q≠G.P→q≠G.gq→q<W.heap.size→w'.heap[q]?=W.heap[q]?)∧W.heap.size≤w'.heap.size):=HL.out.post (ev3 7 0 0) none 0 0 (none8 _) (Nat.zero_le _)
   clear h9;go_enter Tryz.func75,Tryz.ntmps75
   go_wp2_with (first | (refine wpList_lookup_own_ok_int _ rfl _ _ 128 rfl 3 3 .i64 keyed3 Tryz.underlying128 Tryz.underlying3 (zero3 _) G.mb nm D rfl HM.out _ _ rfl HK.out ?_;intro c hat hwc;rw[HH.out]) | (go_at_call 115;refine (HIR.out _).mono ?_;rintro o w1 ⟨rfl,rfl⟩))
   refine HP.out.mono ?_
   rintro o w7 ⟨rfl,hl7,_,_⟩;have HL7:Hid (lh w0 G (postHo H (ev3 7 0 0)) f1 f3 hs nm D w7):=hl7
   clear hl7 HP;go_wp2_with fail;first | go_end0 | (simp only[Exit.inBlock,Exit.then];refine bodyPost_ret (results_none rfl _ _ _) rfl ?_) | refine bodyPost_ret (results_none rfl _ _ _) rfl ?_
   exact⟨rfl,_,_,by rw[HT.out];exact HL7.out⟩
set_option maxHeartbeats 1000000 in
theorem lit74 {w0:World} {G:Lg} {H:Ho} {f1 f3:Nat} {hs:Nat→Hd} {nm:Nat} {D:DataW Unit} {W:World} (h:lh w0 G H f1 f3 hs nm D W) (Bx:Nat) (t:Int) (hwt:(Lit.int .i64 t).wf=true) (hD:(tagIx H.bx t<H.bx.length∧Maps.has D (.int .i64 t)=true∧∀ z,D.atKey (.int .i64 t) z = .lit (.int .i64 (tagIx H.bx t:Int)))∨(¬ tagIx H.bx t<H.bx.length∧Maps.has D (.int .i64 t)=false)) (yb:W.cell? ⟨Bx,0,none⟩=some (.int .i64 t)) (hwf:∀ j (hj:j<H.bx.length),(Lit.int .i64 H.bx[j].y).wf=true) :
  Calls Tryz.prog 74 #[.pointer (some ⟨G.P,0,none⟩),.pointer (some ⟨Bx,0,none⟩)] W fun o w'=>o = .returned (.tuple #[])∧∃ hs' D',lh w0 G (abHo H t) f1 f3 hs' nm D' w':=by
 have HS:Hid (Calls Tryz.prog 75 #[.pointer (some ⟨G.P,0,none⟩),.int .i64 t] W fun o w'=>o = .returned (.tuple #[])∧∃ hs' D',lh w0 G (abHo H t) f1 f3 hs' nm D' w'):=abort_any h t hwt hD hwf
 clear h hwf hD hwt;go_enter Tryz.func74,Tryz.ntmps74
 go_wp2_with (first | (go_at_call 75;refine HS.out.mono ?_;rintro o w5 ⟨rfl,hs',D',hq⟩;have HQ:Hid (lh w0 G (abHo H t) f1 f3 hs' nm D' w5):=hq;clear hq))
 first | go_end0 | (simp only[Exit.inBlock,Exit.then];refine bodyPost_ret (results_none rfl _ _ _) rfl ?_) | refine bodyPost_ret (results_none rfl _ _ _) rfl ?_
 exact⟨rfl,hs',D',HQ.out⟩
theorem open_abort (w:World) (H:Ho) (s:Sl) (Bx:Nat) (t:Int) (h:isHo w H s) (hs:slSome s) (hok:okHo H) (hm:H.le 1048576) (yb:w.cell? ⟨Bx,0,none⟩=some (.int .i64 t)) (hwt:(Lit.int .i64 t).wf=true) :
  Calls Tryz.prog 61 #[.agg (hoL H s).toArray] w fun o w'=>∃ P,o = .returned (.pointer (some ⟨P,0,none⟩))∧Below w.heap.size w w'∧Calls Tryz.prog 74 #[.pointer (some ⟨P,0,none⟩),.pointer (some ⟨Bx,0,none⟩)] w' fun o w2=>o = .returned (.tuple #[])∧Below w.heap.size w w2∧Calls Tryz.prog 118 #[.pointer (some ⟨P,0,none⟩)] w2 (toldQ w2 (abHo H t)):=by
 refine (open_lh w H s h hs hok hm).mono ?_
 rintro o w' ⟨G,hd,rfl,hl,hn⟩;rw[hn] at hl
 refine⟨G.P,rfl,hl.b,(lit74 hl Bx t hwt (tags_ix hok.bx.2.1 t) ((hl.b.cell (by exact World.block_lt_of_cell? w _ yb)).trans yb) hok.bx.wf).mono ?_⟩
 rintro o w2 ⟨rfl,hs',D',h2⟩;exact⟨rfl,h2.b,h2.told⟩
structure sbT (w:World) (L F:List Value) (W:World):Prop where
 s:sbS w L F W
 b:Below w.heap.size w W
theorem sbT.below {w:World} {L F:List Value} {W W':World} (h:sbT w L F W) (hb:Below W.heap.size W W'):sbT w L F W':=⟨h.s.below hb,h.b.trans (hb.mono h.b.size)⟩
theorem sbT.new (w:World) (L F:List Value):sbT w L F (((w.alloc (.cells L.toArray 35)).alloc (.cells F.toArray 25)).alloc (.cells Z10.toArray 35)):=⟨sbS.new w L F,(((Below.refl _ _).alloc (Nat.le_refl _) _).alloc (by simp) _).alloc (by simp;omega) _⟩
set_option maxHeartbeats 4000000 in
set_option maxRecDepth 20000 in
theorem specSubmit_any (w:World) (H:Ho) (s:Sl) (t:Int) (F:R5) (fa:Option Addr) (fm fc:Nat) (T:Ho) (hR:okRel H (subHo H t F) T) (h:isHo w H s) (hn:H.le 1048576) (hf:isBytes w fa fm fc F.l) (hfm:fm≤1048576) :
  Calls Tryz.prog 24 #[.agg (hoL H s).toArray,.int .i64 t,frV F.e F.i F.r F.d fa fm fc] w fun o w'=>∃ s',o = .returned (.agg (hoL T s').toArray)∧St w.heap.size w' (fun V=>isHo V T s')∧Below w.heap.size w w':=by
 have H0:Hid (sbT w (hoL H s) [.bool F.e,.int .u32 (F.i:Int),.bool F.r,.int .i64 F.d,.slice fa fm fc] (((w.alloc (.cells (hoL H s).toArray 35)).alloc (.cells [.bool F.e,.int .u32 (F.i:Int),.bool F.r,.int .i64 F.d,.slice fa fm fc].toArray 25)).alloc (.cells [.int .i64 0,.int .i64 0,.int .i64 0,.int .i64 0,.slice none 0 0,.slice none 0 0,.slice none 0 0,.slice none 0 0,.int .i64 0,.int .i64 0].toArray 35))):=sbT.new w _ _
 have HR:Hid (okRel H (subHo H t F) T):=hR
 clear hR;by_cases hok:okHo H
 ·have HV:Hid (∀ W,Below w.heap.size w W→Calls Tryz.prog 72 #[.agg (hoL H s).toArray] W fun o w'=>o = .returned (.bool true)∧Below W.heap.size W w'):=fun W hW=>okL W H s (h.below hW) hn hok
  have HC:Hid (∀ W,Below w.heap.size w W→Calls Tryz.prog 71 #[.agg (hoL H s).toArray] W fun o w'=>∃ s' T0 T1 T2,o = .returned (.agg (hoL H s').toArray)∧spS (W.heap.size+3) T0 T1 T2 H s' w'∧s'.n2=H.bx.length∧s'.n4=H.qu.length∧Below W.heap.size W w'):=fun W hW=>copyS W H s (h.below hW) hn
  have HFB:Hid (isBytes w fa fm fc F.l):=hf
  have HOK:Hid (okHo H):=hok
  clear h hn hok hf;go_enter Tryz.func24,Tryz.ntmps24
  go_wp2_with (first
   | (refine wpList_load_mid (P:=Tryz.prog) rfl 35 _ rfl w.heap.size 0 rfl _ _ H0.out.s.p.load Tryz.underlying35 rfl (sz41L H s) ?_))
  refine (HV.out _ H0.out.b).mono ?_
  rintro o w1 ⟨rfl,hb1⟩;have H1:Hid (sbT w (hoL H s) [.bool F.e,.int .u32 (F.i:Int),.bool F.r,.int .i64 F.d,.slice fa fm fc] w1):=H0.out.below hb1
  clear H0 hb1 HV;go_wp2_with fail;refine wp_region_held (S:=fun X=>blk X w.heap.size (hoL H s) 35∧blk X (w.heap.size+1) [.bool F.e,.int .u32 (F.i:Int),.bool F.r,.int .i64 F.d,.slice fa fm fc] 25) (by kernel_rfl) ?_
  have H1:Hid (sbT w (hoL H s) [.bool F.e,.int .u32 (F.i:Int),.bool F.r,.int .i64 F.d,.slice fa fm fc] (World.drew w1)):=H1.out.below (Below.refl _ _).drew
  change wpAnyH Tryz.prog _ _ _ _ _ _ _ (World.drew w1)
  generalize World.drew w1=v0 at *;have hS:blk v0 w.heap.size (hoL H s) 35∧blk v0 (w.heap.size+1) [.bool F.e,.int .u32 (F.i:Int),.bool F.r,.int .i64 F.d,.slice fa fm fc] 25:=⟨H1.out.s.p,H1.out.s.f⟩
  refine wT (i:=0) (v:=.agg (hoL H s).toArray) rfl (by kernel_rfl) (by kernel_rfl) (by kernel_rfl) (fun _ _ _ h=>h) (yieldsIf_load_mid (by rfl) 35 _ rfl w.heap.size 0 rfl (hoL H s) _ (fun X h=>h.1.load) Tryz.underlying35 rfl (sz41L H s)) hS ?_
  simp only[Act.put,aA,aB,aC,aD,aE]
  refine wT (i:=2) (v:=.int .i64 t) rfl (by kernel_rfl) (by kernel_rfl) (by kernel_rfl) (fun _ _ _ h=>h) (Or.inl ⟨by rfl,?_⟩) hS ?_
  ·intro W hSw;clear hS;go_simp
  simp only[Act.put,aA,aB,aC,aD,aE,aF];refine wT (i:=3) (v:=.agg [.bool F.e,.int .u32 (F.i:Int),.bool F.r,.int .i64 F.d,.slice fa fm fc].toArray) rfl (by kernel_rfl) (by kernel_rfl) (by kernel_rfl) (fun _ _ _ h=>h) (yieldsIf_load_mid (by rfl) 25 _ rfl (w.heap.size+1) 0 rfl [.bool F.e,.int .u32 (F.i:Int),.bool F.r,.int .i64 F.d,.slice fa fm fc] _ (fun X h=>h.2.load) Tryz.underlying25 rfl sz93) hS ?_
  simp only[Act.put,aA,aB,aC,aD,aE,aF];refine wpAnyH_all (rs:=[1]) (by kernel_rfl) (by simp) ?_
  refine AllReadyH.cons rfl (fun K2 hK2=>?_) AllReadyH.nil
  go_simp;refine (HC.out v0 H1.out.b).mono ?_
  rintro o w2 ⟨s2,T0,T1,T2,rfl,e4,e2,e3,hb2⟩;have hn2:s2.n2≤1000:=by rw[e2];have:=HOK.out.n2;omega
  have hn4:s2.n4≤1000:=by rw[e3];exact HOK.out.n4
  have HD:Hid (Calls Tryz.prog 73 #[.agg (hoL H s2).toArray,.int .i64 t,frV F.e F.i F.r F.d fa fm fc] w2 fun o w'=>∃ s',o = .returned (.agg (hoL (subHo H t F) s').toArray)∧St (v0.heap.size+3) w' (fun V=>isHo V (subHo H t F) s')∧Below (v0.heap.size+3) w2 w'):=l3doSubmit_any (v0.heap.size+3) T0 T1 T2 w2 H s2 t F fa fm fc e4 hn2 hn4 ⟨HOK.out.l0,HOK.out.l1⟩ ⟨HOK.out.s0,HOK.out.s1⟩ (HFB.out.below (H1.out.b.trans (hb2.mono H1.out.b.size))) hfm
  have H2:Hid (sbT w (hoL H s) [.bool F.e,.int .u32 (F.i:Int),.bool F.r,.int .i64 F.d,.slice fa fm fc] w2):=H1.out.below hb2
  have HZ2:Hid (w.heap.size+1+1<v0.heap.size):=H1.out.s.r.lt
  clear e2 e3 e4 hb2 hn2 hn4 H1 HC;go_wp2_with fail;refine hK2.out _ _ ⟨H2.out.s.p,H2.out.s.f⟩ (fun hS2=>?_)
  clear hK2 K2 hS;have hS:=hS2
  clear hS2;refine wpAnyH_all (rs:=[4]) (by kernel_rfl) (by simp) ?_
  refine AllReadyH.cons rfl (fun K2 hK2=>?_) AllReadyH.nil
  go_simp;refine HD.out.mono ?_
  rintro o w3 ⟨s3,rfl,q1,q2⟩;have hS5:blk w3 w.heap.size (hoL H s) 35∧blk w3 (w.heap.size+1) [.bool F.e,.int .u32 (F.i:Int),.bool F.r,.int .i64 F.d,.slice fa fm fc] 25:=⟨hS.1.kept (q2.block _ (by have:=HZ2.out;omega)),hS.2.kept (q2.block _ (by have:=HZ2.out;omega))⟩
  have H3:Hid (blk w3 (w.heap.size+1+1) Z10 35):=H2.out.s.r.kept (q2.block _ (by have:=HZ2.out;omega))
  have HB3:Hid (Below w.heap.size w w3):=H2.out.b.trans (q2.mono (by have:=HZ2.out;omega))
  have HST:Hid (St (v0.heap.size+3) w3 (fun V=>isHo V (subHo H t F) s3)):=q1
  clear q1 q2 H2 HD;go_wp2_with fail;refine hK2.out _ _ hS5 (fun hS2=>?_)
  clear hK2 K2 hS hS5;have hS:=hS2
  clear hS2;refine wpAnyH_all (rs:=[5]) (by kernel_rfl) (by simp) ?_
  refine AllReadyH.cons rfl (fun K2 hK2=>?_) AllReadyH.nil
  rw[if_pos (by rfl)]
  refine wp_store_mid 35 _ _ rfl (w.heap.size+1+1) 0 (hoL (subHo H t F) s3).toArray rfl rfl (H3.out.there 0 _ (by rw[List.size_toArray,hoL_len];decide)) (sz41A _ _) (hoL_one _ _) ?_
  have hS5:blk (w3.setCells (w.heap.size+1+1) 0 (hoL (subHo H t F) s3)) w.heap.size (hoL H s) 35∧blk (w3.setCells (w.heap.size+1+1) 0 (hoL (subHo H t F) s3)) (w.heap.size+1) [.bool F.e,.int .u32 (F.i:Int),.bool F.r,.int .i64 F.d,.slice fa fm fc] 25:=⟨hS.1.other (by omega) _ _,hS.2.other (by omega) _ _⟩
  refine hK2.out _ _ hS5 (fun hS2=>?_)
  clear hK2 K2 hS hS5 hS2;refine wpAnyH_done (by kernel_rfl) ?_ _
  simp only[Act.put]
  generalize hW8:World.setCells w3 (w.heap.size+1+1) 0 (hoL (subHo H t F) s3)=w8
  have HW8:Hid (World.setCells w3 (w.heap.size+1+1) 0 (hoL (subHo H t F) s3)=w8):=hW8
  clear hW8;go_wp2_with fail;have e8:=HW8.out
  have hF:blk w8 (w.heap.size+1+1) (hoL (subHo H t F) s3) 35:=by
   rw[← e8]
   have:=blk.put [] Z10 [] (hoL (subHo H t F) s3) (w:=w3) (b:=w.heap.size+1+1) (T:=35) (by simpa using H3.out) (by rw[hoL_len];rfl)
   rw[List.nil_append,List.append_nil] at this
   exact this
  have hL:=run_loadVar_mid (P:=Tryz.prog) w8 (w.heap.size+1+1) 0 35 _ _ hF.load Tryz.underlying35 rfl (sz41L _ _)
  refine bodyPost_ret (v:=.agg (hoL (subHo H t F) s3).toArray) (results_cell Tryz.results24 _ w8 (w.heap.size+1+1) _ rfl hL) rfl ?_
  have hR:=HR.out.yes HOK.out
  subst hR;refine⟨s3,rfl,fun V hV=>HST.out _ (fun x h1 h2=>?_),?_⟩
  ·rw[hV x (by have:=HZ2.out;omega) (by rw[← e8,setCells_size];exact h2),← e8]
   exact setCells_other _ x (by have:=HZ2.out;omega) _ _ _
  ·rw[← e8]
   exact setCells_below (by omega) 0 _ HB3.out
 ·have HV:Hid (∀ W,Below w.heap.size w W→Calls Tryz.prog 72 #[.agg (hoL H s).toArray] W fun o w'=>o = .returned (.bool false)∧Below W.heap.size W w'):=fun W hW=>badL W H s (h.below hW) hn hok
  have HOK:Hid (¬ okHo H):=hok
  clear h hn hok hf;go_enter Tryz.func24,Tryz.ntmps24
  go_wp2_with (first
   | (refine wpList_load_mid (P:=Tryz.prog) rfl 35 _ rfl w.heap.size 0 rfl _ _ H0.out.s.p.load Tryz.underlying35 rfl (sz41L H s) ?_))
  refine (HV.out _ H0.out.b).mono ?_
  rintro o w1 ⟨rfl,hb1⟩;have H1:Hid (sbT w (hoL H s) [.bool F.e,.int .u32 (F.i:Int),.bool F.r,.int .i64 F.d,.slice fa fm fc] w1):=H0.out.below hb1
  clear H0 hb1;go_wp2_with (first
   | (refine wpList_store_mid (P:=Tryz.prog) rfl 35 _ _ rfl (w.heap.size+1+1) 0 [.int .i64 0,.int .i64 0,.int .i64 0,.int .i64 0,.slice none 0 0,.slice none 0 0,.slice none 0 0,.slice none 0 0,.int .i64 0,.int .i64 0].toArray rfl rfl (H1.out.s.r.there 0 10 (by simp[Z10])) sz41 (all_oneCell_toArray (by simp[Value.oneCell'])) ?_;generalize hW8:World.setCells _ (w.heap.size+1+1) 0 _=w8;have HW8:Hid (_=w8):=hW8;clear hW8))
  have e8:=HW8.out
  have hF:blk w8 (w.heap.size+1+1) [.int .i64 0,.int .i64 0,.int .i64 0,.int .i64 0,.slice none 0 0,.slice none 0 0,.slice none 0 0,.slice none 0 0,.int .i64 0,.int .i64 0] 35:=by
   rw[← e8]
   have:=blk.put [] Z10 [] [.int .i64 0,.int .i64 0,.int .i64 0,.int .i64 0,.slice none 0 0,.slice none 0 0,.slice none 0 0,.slice none 0 0,.int .i64 0,.int .i64 0] (w:=w1) (b:=w.heap.size+1+1) (T:=35) (by simpa using H1.out.s.r) rfl
   simpa using this
  have hL:=run_loadVar_mid (P:=Tryz.prog) w8 (w.heap.size+1+1) 0 35 _ _ hF.load Tryz.underlying35 rfl sz41
  refine bodyPost_ret (v:=.agg [.int .i64 0,.int .i64 0,.int .i64 0,.int .i64 0,.slice none 0 0,.slice none 0 0,.slice none 0 0,.slice none 0 0,.int .i64 0,.int .i64 0].toArray) (results_cell Tryz.results24 _ w8 (w.heap.size+1+1) _ rfl hL) rfl ?_
  have hR:=HR.out.no HOK.out
  subst hR;refine⟨zSl,by rw[zHo_L],fun V _=>zHo_is V,?_⟩
  rw[← e8]
  exact setCells_below (by omega) 0 _ H1.out.b
theorem isFree_any (w:World) (b:R8) (a:Option Addr) (n cap:Nat) :
  Calls Tryz.prog 165 #[bxV b.x b.y b.z b.e b.i b.r b.d a n cap] w fun o w'=>o = .returned (.bool (b.x == 0))∧Below w.heap.size w w':=by
 obtain⟨x,y,z,e,i,r,d,l⟩:=b
 have HA:Hid (Below w.heap.size w (w.alloc (.cells #[.int .i64 x,.int .i64 y,.int .i64 z,.bool e,.int .u32 (i:Int),.bool r,.int .i64 d,.slice a n cap] 97))):=(Below.refl _ _).alloc (Nat.le_refl _) _
 go_enter Tryz.func165,Tryz.ntmps165
 go_wp2
 go_ret;exact⟨rfl,HA.out⟩
set_option maxHeartbeats 4000000 in
set_option maxRecDepth 20000 in
theorem indexFree_any (w:World) (a:Option Addr) (n cap:Nat) (bs:List R8) (h:isR8s w a n cap bs) (hn:n≤1048576) :
  Calls Tryz.prog 164 #[.slice a n cap,.func (.func 165) #[] #[]] w fun o w'=>∃ z:Int,o = .returned (.int .i64 z)∧fstB (fun b=>b.x=0) bs z∧Below w.heap.size w w':=by
 have hlen:=h.len
 have hcp:=h.cap
 by_cases hl:bs=[]
 ·subst hl;have hn0:n=0:=hlen
  subst hn0;clear hlen h;go_enter Tryz.func164,Tryz.ntmps164
  go_wp2
  go_loopw [8] (fun i wr=>i = .int .i64 0∧wr=w) (fun _ _=>0)
  case atStart=>exact⟨rfl,rfl⟩
  case round=>
   obtain⟨rfl,rfl⟩:=hrel
   go_wp2
   go_ret;exact⟨-1,rfl,Or.inr ⟨fun k hk=>(by cases hk),rfl⟩,Below.refl _ _⟩
 ·obtain⟨g,off,rfl,hc⟩:=h.cells hl
  have HL:Hid (n=bs.length):=hlen
  have HC:Hid (∀ j (h:j<bs.length),∃ ao m c,at8 w g (off+j*8) bs[j] ao m c):=hc
  clear h hlen hc;go_enter Tryz.func164,Tryz.ntmps164
  go_wp2
  go_loopw [8] (fun i wr=>∃ k:Nat,k≤n∧i = .int .i64 (k:Int)∧(∀ j (hj:j<bs.length),j<k→¬ bs[j].x=0)∧Below w.heap.size w wr) (fun i _=>n-(intOf i).toNat)
  case atStart=>exact⟨0,Nat.zero_le _,rfl,fun j hj h=>absurd h (Nat.not_lt_zero _),Below.refl _ _⟩
  case round=>
   obtain⟨k,hk,rfl,hdone,hb⟩:=hrel
   by_cases hlt:k<n
   ·have hkl:k<bs.length:=by have:=HL.out;omega
    obtain⟨ao,m,c,hx⟩:=HC.out k hkl
    have hx':=hx.below hb
    have HRG:=hx'.range
    have HW:Hid (Calls Tryz.prog 165 #[bxV bs[k].x bs[k].y bs[k].z bs[k].e bs[k].i bs[k].r bs[k].d ao m c] wr fun o w'=>o = .returned (.bool (bs[k].x == 0))∧Below wr.heap.size wr w'):=isFree_any wr bs[k] ao m c
    have HB:Hid (Below w.heap.size w wr):=hb
    have HD:Hid (∀ j (hj:j<bs.length),j<k→¬ bs[j].x=0):=hdone
    clear hx hx' hb hdone;have HON:Hid ((bs[k].x == 0)=true↔bs[k].x=0):=by show _↔_;simp
    generalize (bs[k].x == 0)=q at *;have HRG:Hid (wr.rangeAt g (off+k*8) [.int .i64 bs[k].x,.int .i64 bs[k].y,.int .i64 bs[k].z,.bool bs[k].e,.int .u32 (bs[k].i:Int),.bool bs[k].r,.int .i64 bs[k].d,.slice ao m c]):=HRG
    cases q
    ·have HN:Hid (∀ j (hj:j<bs.length),j<k+1→¬ bs[j].x=0):=fun j hj hjk=>by
      by_cases e:j=k
      ·subst e;exact fun h=>absurd (HON.out.2 h) (by simp)
      ·exact HD.out j hj (by omega)
     clear HON;generalize bs[k].x=x0 at *;generalize bs[k].y=y0 at *;generalize bs[k].z=z0 at *;generalize bs[k].e=e0 at *;generalize bs[k].i=i0 at *;generalize bs[k].r=r0 at *;generalize bs[k].d=d0 at *;go_wp2_with (first
      | (refine wpList_load_mid (P:=Tryz.prog) rfl 97 _ rfl g (off+k*8) rfl _ _ HRG.out Tryz.underlying97 rfl sz95 ?_)
      | (go_at_call 165;refine HW.out.mono ?_;rintro o w5 ⟨rfl,hb5⟩))
     go_roundw
     case rel=>exact⟨k+1,by omega,by go_num,HN.out,HB.out.trans (hb5.mono HB.out.size)⟩
     case measure=>simp[intOf];omega
    ·have HN:Hid (fstB (fun b=>b.x=0) bs (k:Int)):=Or.inl ⟨k,hkl,HON.out.1 rfl,HD.out,rfl⟩
     clear HON;generalize bs[k].x=x0 at *;generalize bs[k].y=y0 at *;generalize bs[k].z=z0 at *;generalize bs[k].e=e0 at *;generalize bs[k].i=i0 at *;generalize bs[k].r=r0 at *;generalize bs[k].d=d0 at *;go_wp2_with (first
      | (refine wpList_load_mid (P:=Tryz.prog) rfl 97 _ rfl g (off+k*8) rfl _ _ HRG.out Tryz.underlying97 rfl sz95 ?_)
      | (go_at_call 165;refine HW.out.mono ?_;rintro o w5 ⟨rfl,hb5⟩))
     go_ret;exact⟨k,rfl,HN.out,HB.out.trans (hb5.mono HB.out.size)⟩
   ·have hkn:n=k:=by omega
    subst hkn;go_wp2
    go_ret;exact⟨-1,rfl,Or.inr ⟨fun j hj=>hdone j hj (by have:=HL.out;omega),rfl⟩,hb⟩
theorem fstB.free {bx:List R8} {r:Int} (h:fstB (fun b=>b.x=0) bx r):(r = -1∧¬ freeIx bx<bx.length)∨(r=(freeIx bx:Int)∧freeIx bx<bx.length):=by
 rcases h with⟨k,hk,h1,h2,rfl⟩|⟨h1,rfl⟩
 ·right
  have e:freeIx bx=k:=by
   unfold freeIx
   rw[List.findIdx_eq hk]
   exact⟨by simp only[beq_iff_eq];exact h1,fun j hj=>by simpa using h2 j (by omega) hj⟩
  rw[e]
  exact⟨rfl,hk⟩
 ·left
  refine⟨rfl,?_⟩
  have:freeIx bx=bx.length:=List.findIdx_eq_length.2 fun b hb=>by
   obtain⟨j,hj,rfl⟩:=List.getElem_of_mem hb
   simpa using h1 j hj
  omega
set_option maxHeartbeats 2000000 in
theorem freeBox_any (w:World) (P:Nat) (a:Option Addr) (n cap:Nat) (bx:List R8) (y5:w.cell? ⟨P,5,none⟩=some (.slice a n cap)) (h:isR8s w a n cap bx) (hn:n≤1048576) :
  Calls Tryz.prog 121 #[.pointer (some ⟨P,0,none⟩)] w fun o w'=>∃ z:Int,o = .returned (.int .i64 z)∧fstB (fun b=>b.x=0) bx z∧Below w.heap.size w w':=by
 have HI:Hid (Calls Tryz.prog 164 #[.slice a n cap,.func (.func 165) #[] #[]] w fun o w'=>∃ z:Int,o = .returned (.int .i64 z)∧fstB (fun b=>b.x=0) bx z∧Below w.heap.size w w'):=indexFree_any w a n cap bx h hn
 clear h;go_enter Tryz.func121,Tryz.ntmps121
 go_wp2_with (first | (go_at_call 164;refine HI.out.mono ?_;rintro o w5 ⟨z,rfl,hz,hb5⟩;have HZ:Hid (fstB (fun b=>b.x=0) bx z∧Below w.heap.size w w5):=⟨hz,hb5⟩;clear hz hb5))
 go_ret;exact⟨z,rfl,HZ.out.1,HZ.out.2⟩
theorem lh.freeBox {w0:World} {G:Lg} {H:Ho} {f1 f3:Nat} {hs:Nat→Hd} {nm:Nat} {D:DataW Unit} {W:World} (h:lh w0 G H f1 f3 hs nm D W):Calls Tryz.prog 121 #[.pointer (some ⟨G.P,0,none⟩)] W fun o w'=>∃ z:Int,o = .returned (.int .i64 z)∧((z = -1∧¬ freeIx H.bx<H.bx.length)∨(z=(freeIx H.bx:Int)∧freeIx H.bx<H.bx.length))∧Below W.heap.size W w':=(freeBox_any W G.P _ G.n2 G.kb H.bx (h.p.cell 5 _ rfl) (h.x.is h.bd.nk) (by have:=h.bd.m2;omega)).mono (by rintro o w' ⟨z,rfl,hz,hb⟩;exact⟨z,rfl,hz.free,hb⟩)
def refEv (H:Ho) (t:Int) (F:R5):R8:=
 if ¬ (0≤t∧t≤9999) then ev3 5 0 1
 else if validB F.e F.i F.r F.d F.l.length=false then ev3 5 t 2
 else if tagIx H.bx t<H.bx.length then ev3 5 t 3
 else if H.st=1000000 then ev3 5 t 4
 else if freeIx H.bx<H.bx.length then ev3 0 0 0
 else ev3 4 t 0
theorem subHo_ref {H:Ho} {t:Int} {F:R5}:((refEv H t F).x≠0∧subHo H t F=postHo H (refEv H t F)∧(refEv H t F).l=[]∧refEv H t F=ev3 (refEv H t F).x (refEv H t F).y (refEv H t F).z)∨(refEv H t F=ev3 0 0 0∧(0≤t∧t≤9999)∧¬ tagIx H.bx t<H.bx.length∧freeIx H.bx<H.bx.length∧subHo H t F=xHo H (H.bx.set (freeIx H.bx) ⟨1,t,H.st,F.e,F.i,F.r,F.d,F.l⟩) (H.st+1)∧H.st≠1000000):=by
 unfold refEv subHo
 by_cases c1:¬ (0≤t∧t≤9999)
 ·rw[if_pos c1,if_pos c1];exact Or.inl ⟨by simp,rfl,rfl,rfl⟩
 ·rw[if_neg c1,if_neg c1]
  by_cases c2:validB F.e F.i F.r F.d F.l.length=false
  ·rw[if_pos c2,if_pos c2];exact Or.inl ⟨by simp,rfl,rfl,rfl⟩
  ·rw[if_neg c2,if_neg c2]
   by_cases c3:tagIx H.bx t<H.bx.length
   ·rw[if_pos c3,if_pos c3];exact Or.inl ⟨by simp,rfl,rfl,rfl⟩
   ·rw[if_neg c3,if_neg c3]
    by_cases c4:H.st=1000000
    ·rw[if_pos c4,if_pos c4];exact Or.inl ⟨by simp,rfl,rfl,rfl⟩
    ·rw[if_neg c4,if_neg c4]
     by_cases c5:freeIx H.bx<H.bx.length
     ·rw[if_pos c5,if_pos c5];exact Or.inr ⟨rfl,Classical.not_not.1 c1,c3,c5,rfl,c4⟩
     ·rw[if_neg c5,if_neg c5];exact Or.inl ⟨by simp,rfl,rfl,rfl⟩
set_option maxHeartbeats 8000000 in
set_option maxRecDepth 20000 in
theorem refusal_any {w0:World} {G:Lg} {H:Ho} {f1 f3:Nat} {hs:Nat→Hd} {nm:Nat} {D:DataW Unit} {W:World} (h:lh w0 G H f1 f3 hs nm D W) (t:Int) (F:R5) (fa:Option Addr) (fm fc:Nat) (hf:isBytes W fa fm fc F.l) (hwt:(Lit.int .i64 t).wf=true) (hD:(tagIx H.bx t<H.bx.length∧Maps.has D (.int .i64 t)=true)∨(¬ tagIx H.bx t<H.bx.length∧Maps.has D (.int .i64 t)=false)) :
  Calls Tryz.prog 119 #[.pointer (some ⟨G.P,0,none⟩),.int .i64 t,frV F.e F.i F.r F.d fa fm fc] W fun o w'=>o = .returned (.agg #[.int .i64 (refEv H t F).x,.int .i64 (refEv H t F).y,.int .i64 (refEv H t F).z,.bool false,.int .u32 0,.bool false,.int .i64 0,.slice none 0 0])∧Below W.heap.size W w':=by
 have hbA:Below W.heap.size W ((W.alloc (.cells [.bool F.e,.int .u32 (F.i:Int),.bool F.r,.int .i64 F.d,.slice fa fm fc].toArray 25)).alloc (.cells [.int .i64 0,.int .i64 0,.int .i64 0,.bool false,.int .u32 0,.bool false,.int .i64 0,.slice none 0 0].toArray 46)):=((Below.refl _ _).alloc (Nat.le_refl _) _).alloc (by simp) _
 have HBA:Hid (Below W.heap.size W ((W.alloc (.cells [.bool F.e,.int .u32 (F.i:Int),.bool F.r,.int .i64 F.d,.slice fa fm fc].toArray 25)).alloc (.cells [.int .i64 0,.int .i64 0,.int .i64 0,.bool false,.int .u32 0,.bool false,.int .i64 0,.slice none 0 0].toArray 46))):=hbA
 have HA:Hid (blk ((W.alloc (.cells [.bool F.e,.int .u32 (F.i:Int),.bool F.r,.int .i64 F.d,.slice fa fm fc].toArray 25)).alloc (.cells [.int .i64 0,.int .i64 0,.int .i64 0,.bool false,.int .u32 0,.bool false,.int .i64 0,.slice none 0 0].toArray 46)) W.heap.size [.bool F.e,.int .u32 (F.i:Int),.bool F.r,.int .i64 F.d,.slice fa fm fc] 25∧blk ((W.alloc (.cells [.bool F.e,.int .u32 (F.i:Int),.bool F.r,.int .i64 F.d,.slice fa fm fc].toArray 25)).alloc (.cells [.int .i64 0,.int .i64 0,.int .i64 0,.bool false,.int .u32 0,.bool false,.int .i64 0,.slice none 0 0].toArray 46)) (W.heap.size+1) [.int .i64 0,.int .i64 0,.int .i64 0,.bool false,.int .u32 0,.bool false,.int .i64 0,.slice none 0 0] 46):=by
  refine⟨(blk.new W _ 25).alloc _,?_⟩
  have:=blk.new (W.alloc (.cells [.bool F.e,.int .u32 (F.i:Int),.bool F.r,.int .i64 F.d,.slice fa fm fc].toArray 25)) [.int .i64 0,.int .i64 0,.int .i64 0,.bool false,.int .u32 0,.bool false,.int .i64 0,.slice none 0 0] 46
  have e:(W.alloc (.cells [.bool F.e,.int .u32 (F.i:Int),.bool F.r,.int .i64 F.d,.slice fa fm fc].toArray 25)).heap.size=W.heap.size+1:=by simp
  rw[e] at this
  exact this
 have HLA:Hid (lh w0 G H f1 f3 hs nm D ((W.alloc (.cells [.bool F.e,.int .u32 (F.i:Int),.bool F.r,.int .i64 F.d,.slice fa fm fc].toArray 25)).alloc (.cells [.int .i64 0,.int .i64 0,.int .i64 0,.bool false,.int .u32 0,.bool false,.int .i64 0,.slice none 0 0].toArray 46))):=h.below hbA
 have y6:=HLA.out.p.cell 6 _ rfl
 have HK:Hid (keyOf Tryz.prog 3 (.int .i64 t)=some (.int .i64 t)):=key3 hwt
 have HVL:Hid (∀ X,Below W.heap.size W X→Calls Tryz.prog 153 #[frV F.e F.i F.r F.d fa fm fc] X fun o w'=>o = .returned (.bool (validB F.e F.i F.r F.d fm))∧Below X.heap.size X w'):=fun X hX=>valid_any X _ _ _ _ _ _ _ _ (hf.below hX)
 have HFL:Hid (fm=F.l.length):=hf.len
 clear h hbA hwt hf;obtain⟨hu,HH⟩ : ∃ u:Bool,Hid (Maps.has D (.int .i64 t)=u)∧(u=true↔tagIx H.bx t<H.bx.length):=by
  rcases hD with⟨h1,h2⟩|⟨h1,h2⟩
  ·exact⟨true,h2,by simp[h1]⟩
  ·exact⟨false,h2,by simp[h1]⟩
 obtain⟨HH,hiff⟩:=HH
 have HIF:Hid (hu=true↔tagIx H.bx t<H.bx.length):=hiff
 clear hD hiff;by_cases ht:0≤t∧t≤9999
 ·have HIR:Hid (∀ X,Calls Tryz.prog 115 #[.int .i64 t,.int .i64 0,.int .i64 9999] X fun o w'=>o = .returned (.bool true)∧w'=X):=fun X=>(inRange_any X _ _ _).mono (by rintro o w' ⟨rfl,rfl⟩;exact⟨by simp;omega,rfl⟩)
  go_enter Tryz.func119,Tryz.ntmps119
  go_wp2_with (first | (refine wpList_lookup_own_ok_int _ rfl _ _ 128 rfl 3 3 .i64 keyed3 Tryz.underlying128 Tryz.underlying3 (zero3 _) G.mb nm D rfl HLA.out.m _ _ rfl HK.out ?_;intro c hat hwc;rw[HH.out]) | (go_at_call 115;refine (HIR.out _).mono ?_;rintro o w1 ⟨rfl,rfl⟩) | (refine wpList_load_mid (P:=Tryz.prog) rfl 25 _ rfl W.heap.size 0 rfl [.bool F.e,.int .u32 (F.i:Int),.bool F.r,.int .i64 F.d,.slice fa fm fc] _ HA.out.1.load Tryz.underlying25 rfl sz93 ?_))
  refine (HVL.out _ HBA.out).mono ?_
  rintro o w1 ⟨rfl,hb1⟩;have HB1:Hid (Below W.heap.size W w1):=HBA.out.trans (hb1.mono HBA.out.size)
  have HA1:Hid (blk w1 (W.heap.size+1) [.int .i64 0,.int .i64 0,.int .i64 0,.bool false,.int .u32 0,.bool false,.int .i64 0,.slice none 0 0] 46):=HA.out.2.below hb1
  have HL1:Hid (lh w0 G H f1 f3 hs nm D w1):=HLA.out.below hb1
  clear hb1 HBA HA HLA y6;by_cases hv:validB F.e F.i F.r F.d fm=true
  ·rw[hv]
   have HV:Hid (validB F.e F.i F.r F.d F.l.length=true):=by show _=_;rw[← HFL.out];exact hv
   cases hu
   ·have hno:¬ tagIx H.bx t<H.bx.length:=fun h=>by have:=HIF.out.2 h;cases this
    have y14:w1.cell? ⟨G.P,14,none⟩=some (.int .i64 H.st):=HL1.out.p.cell 14 _ rfl
    by_cases h9:H.st=1000000
    ·have HRF:Hid (refEv H t F=ev3 5 t 4):=by
      show _=_
      unfold refEv
      rw[if_neg (fun h=>h ht),if_neg (by rw[HV.out];simp),if_neg hno,if_pos h9]
     rw[h9] at y14
     go_wp2_with (first
      | (refine wpList_store_mid (P:=Tryz.prog) rfl 46 _ _ rfl (W.heap.size+1) 0 [.int .i64 5,.int .i64 t,.int .i64 4,.bool false,.int .u32 0,.bool false,.int .i64 0,.slice none 0 0].toArray rfl rfl (HA1.out.there 0 8 (by simp)) sz129 (one8 _ _ _ _ _ _ _ _ _ _) ?_;generalize hW9:World.setCells _ (W.heap.size+1) 0 _=w9;have HW9:Hid (_=w9):=hW9;clear hW9))
     have e9:=HW9.out
     have hF:blk w9 (W.heap.size+1) [.int .i64 5,.int .i64 t,.int .i64 4,.bool false,.int .u32 0,.bool false,.int .i64 0,.slice none 0 0] 46:=by
      rw[← e9]
      have:=blk.put [] [.int .i64 0,.int .i64 0,.int .i64 0,.bool false,.int .u32 0,.bool false,.int .i64 0,.slice none 0 0] [] [.int .i64 5,.int .i64 t,.int .i64 4,.bool false,.int .u32 0,.bool false,.int .i64 0,.slice none 0 0] (b:=W.heap.size+1) (T:=46) (by simpa using HA1.out) rfl
      simpa using this
     have hL:=run_loadVar_mid (P:=Tryz.prog) w9 (W.heap.size+1) 0 46 _ _ hF.load Tryz.underlying46 rfl sz129
     refine bodyPost_ret (v:=.agg [.int .i64 5,.int .i64 t,.int .i64 4,.bool false,.int .u32 0,.bool false,.int .i64 0,.slice none 0 0].toArray) (results_cell Tryz.results119 _ w9 (W.heap.size+1) _ rfl hL) rfl ?_
     rw[HRF.out]
     refine⟨rfl,?_⟩
     rw[← e9]
     exact setCells_below (by omega) 0 _ HB1.out
    ·have h9':(H.st == 1000000)=false:=by simpa using h9
     have HFB:Hid (Calls Tryz.prog 121 #[.pointer (some ⟨G.P,0,none⟩)] w1 fun o w'=>∃ z:Int,o = .returned (.int .i64 z)∧((z = -1∧¬ freeIx H.bx<H.bx.length)∨(z=(freeIx H.bx:Int)∧freeIx H.bx<H.bx.length))∧Below w1.heap.size w1 w'):=HL1.out.freeBox
     have HR0:Hid (refEv H t F=if freeIx H.bx<H.bx.length then ev3 0 0 0 else ev3 4 t 0):=by
      show _=_
      unfold refEv
      rw[if_neg (fun h=>h ht),if_neg (by rw[HV.out];simp),if_neg hno,if_neg h9]
     go_wp2_with fail;refine HFB.out.mono ?_
     rintro o w2 ⟨z,rfl,hz,hb2⟩;have HB2:Hid (Below W.heap.size W w2):=HB1.out.trans (hb2.mono HB1.out.size)
     have HA2:Hid (blk w2 (W.heap.size+1) [.int .i64 0,.int .i64 0,.int .i64 0,.bool false,.int .u32 0,.bool false,.int .i64 0,.slice none 0 0] 46):=HA1.out.below hb2
     clear hb2 HFB;rcases hz with⟨rfl,hz⟩|⟨rfl,hz⟩
     ·have HRF:Hid (refEv H t F=ev3 4 t 0):=by show _=_;rw[HR0.out,if_neg hz]
      go_wp2_with (first
       | (refine wpList_store_mid (P:=Tryz.prog) rfl 46 _ _ rfl (W.heap.size+1) 0 [.int .i64 4,.int .i64 t,.int .i64 0,.bool false,.int .u32 0,.bool false,.int .i64 0,.slice none 0 0].toArray rfl rfl (HA2.out.there 0 8 (by simp)) sz129 (one8 _ _ _ _ _ _ _ _ _ _) ?_;generalize hW9:World.setCells _ (W.heap.size+1) 0 _=w9;have HW9:Hid (_=w9):=hW9;clear hW9))
      have e9:=HW9.out
      have hF:blk w9 (W.heap.size+1) [.int .i64 4,.int .i64 t,.int .i64 0,.bool false,.int .u32 0,.bool false,.int .i64 0,.slice none 0 0] 46:=by
       rw[← e9]
       have:=blk.put [] [.int .i64 0,.int .i64 0,.int .i64 0,.bool false,.int .u32 0,.bool false,.int .i64 0,.slice none 0 0] [] [.int .i64 4,.int .i64 t,.int .i64 0,.bool false,.int .u32 0,.bool false,.int .i64 0,.slice none 0 0] (b:=W.heap.size+1) (T:=46) (by simpa using HA2.out) rfl
       simpa using this
      have hL:=run_loadVar_mid (P:=Tryz.prog) w9 (W.heap.size+1) 0 46 _ _ hF.load Tryz.underlying46 rfl sz129
      refine bodyPost_ret (v:=.agg [.int .i64 4,.int .i64 t,.int .i64 0,.bool false,.int .u32 0,.bool false,.int .i64 0,.slice none 0 0].toArray) (results_cell Tryz.results119 _ w9 (W.heap.size+1) _ rfl hL) rfl ?_
      rw[HRF.out]
      refine⟨rfl,?_⟩
      rw[← e9]
      exact setCells_below (by omega) 0 _ HB2.out
     ·have HRF:Hid (refEv H t F=ev3 0 0 0):=by show _=_;rw[HR0.out,if_pos hz]
      go_wp2_with (first
       | (refine wpList_store_mid (P:=Tryz.prog) rfl 46 _ _ rfl (W.heap.size+1) 0 [.int .i64 0,.int .i64 0,.int .i64 0,.bool false,.int .u32 0,.bool false,.int .i64 0,.slice none 0 0].toArray rfl rfl (HA2.out.there 0 8 (by simp)) sz129 (one8 _ _ _ _ _ _ _ _ _ _) ?_;generalize hW9:World.setCells _ (W.heap.size+1) 0 _=w9;have HW9:Hid (_=w9):=hW9;clear hW9))
      have e9:=HW9.out
      have hF:blk w9 (W.heap.size+1) [.int .i64 0,.int .i64 0,.int .i64 0,.bool false,.int .u32 0,.bool false,.int .i64 0,.slice none 0 0] 46:=by
       rw[← e9]
       have:=blk.put [] [.int .i64 0,.int .i64 0,.int .i64 0,.bool false,.int .u32 0,.bool false,.int .i64 0,.slice none 0 0] [] [.int .i64 0,.int .i64 0,.int .i64 0,.bool false,.int .u32 0,.bool false,.int .i64 0,.slice none 0 0] (b:=W.heap.size+1) (T:=46) (by simpa using HA2.out) rfl
       simpa using this
      have hL:=run_loadVar_mid (P:=Tryz.prog) w9 (W.heap.size+1) 0 46 _ _ hF.load Tryz.underlying46 rfl sz129
      refine bodyPost_ret (v:=.agg [.int .i64 0,.int .i64 0,.int .i64 0,.bool false,.int .u32 0,.bool false,.int .i64 0,.slice none 0 0].toArray) (results_cell Tryz.results119 _ w9 (W.heap.size+1) _ rfl hL) rfl ?_
      rw[HRF.out]
      refine⟨rfl,?_⟩
      rw[← e9]
      exact setCells_below (by omega) 0 _ HB2.out
   ·have HRF:Hid (refEv H t F=ev3 5 t 3):=by
     show _=_
     unfold refEv
     rw[if_neg (fun h=>h ht),if_neg (by rw[HV.out];simp),if_pos (HIF.out.1 rfl)]
    go_wp2_with (first
     | (refine wpList_store_mid (P:=Tryz.prog) rfl 46 _ _ rfl (W.heap.size+1) 0 [.int .i64 5,.int .i64 t,.int .i64 3,.bool false,.int .u32 0,.bool false,.int .i64 0,.slice none 0 0].toArray rfl rfl (HA1.out.there 0 8 (by simp)) sz129 (one8 _ _ _ _ _ _ _ _ _ _) ?_;generalize hW9:World.setCells _ (W.heap.size+1) 0 _=w9;have HW9:Hid (_=w9):=hW9;clear hW9))
    have e9:=HW9.out
    have hF:blk w9 (W.heap.size+1) [.int .i64 5,.int .i64 t,.int .i64 3,.bool false,.int .u32 0,.bool false,.int .i64 0,.slice none 0 0] 46:=by
     rw[← e9]
     have:=blk.put [] [.int .i64 0,.int .i64 0,.int .i64 0,.bool false,.int .u32 0,.bool false,.int .i64 0,.slice none 0 0] [] [.int .i64 5,.int .i64 t,.int .i64 3,.bool false,.int .u32 0,.bool false,.int .i64 0,.slice none 0 0] (b:=W.heap.size+1) (T:=46) (by simpa using HA1.out) rfl
     simpa using this
    have hL:=run_loadVar_mid (P:=Tryz.prog) w9 (W.heap.size+1) 0 46 _ _ hF.load Tryz.underlying46 rfl sz129
    refine bodyPost_ret (v:=.agg [.int .i64 5,.int .i64 t,.int .i64 3,.bool false,.int .u32 0,.bool false,.int .i64 0,.slice none 0 0].toArray) (results_cell Tryz.results119 _ w9 (W.heap.size+1) _ rfl hL) rfl ?_
    rw[HRF.out]
    refine⟨rfl,?_⟩
    rw[← e9]
    exact setCells_below (by omega) 0 _ HB1.out
  ·have hv':validB F.e F.i F.r F.d fm=false:=by simpa using hv
   rw[hv']
   have HRF:Hid (refEv H t F=ev3 5 t 2):=by
    show _=_
    unfold refEv
    rw[if_neg (fun h=>h ht),if_pos (by rw[← HFL.out];exact hv')]
   go_wp2_with (first
    | (refine wpList_store_mid (P:=Tryz.prog) rfl 46 _ _ rfl (W.heap.size+1) 0 [.int .i64 5,.int .i64 t,.int .i64 2,.bool false,.int .u32 0,.bool false,.int .i64 0,.slice none 0 0].toArray rfl rfl (HA1.out.there 0 8 (by simp)) sz129 (one8 _ _ _ _ _ _ _ _ _ _) ?_;generalize hW9:World.setCells _ (W.heap.size+1) 0 _=w9;have HW9:Hid (_=w9):=hW9;clear hW9))
   have e9:=HW9.out
   have hF:blk w9 (W.heap.size+1) [.int .i64 5,.int .i64 t,.int .i64 2,.bool false,.int .u32 0,.bool false,.int .i64 0,.slice none 0 0] 46:=by
    rw[← e9]
    have:=blk.put [] [.int .i64 0,.int .i64 0,.int .i64 0,.bool false,.int .u32 0,.bool false,.int .i64 0,.slice none 0 0] [] [.int .i64 5,.int .i64 t,.int .i64 2,.bool false,.int .u32 0,.bool false,.int .i64 0,.slice none 0 0] (b:=W.heap.size+1) (T:=46) (by simpa using HA1.out) rfl
    simpa using this
   have hL:=run_loadVar_mid (P:=Tryz.prog) w9 (W.heap.size+1) 0 46 _ _ hF.load Tryz.underlying46 rfl sz129
   refine bodyPost_ret (v:=.agg [.int .i64 5,.int .i64 t,.int .i64 2,.bool false,.int .u32 0,.bool false,.int .i64 0,.slice none 0 0].toArray) (results_cell Tryz.results119 _ w9 (W.heap.size+1) _ rfl hL) rfl ?_
   rw[HRF.out]
   refine⟨rfl,?_⟩
   rw[← e9]
   exact setCells_below (by omega) 0 _ HB1.out
 ·have HIR:Hid (∀ X,Calls Tryz.prog 115 #[.int .i64 t,.int .i64 0,.int .i64 9999] X fun o w'=>o = .returned (.bool false)∧w'=X):=fun X=>(inRange_any X _ _ _).mono (by rintro o w' ⟨rfl,rfl⟩;exact⟨by simp;omega,rfl⟩)
  have HRF:Hid (refEv H t F=ev3 5 0 1):=by
   show _=_
   unfold refEv
   rw[if_pos ht]
  go_enter Tryz.func119,Tryz.ntmps119
  go_wp2_with (first | (refine wpList_lookup_own_ok_int _ rfl _ _ 128 rfl 3 3 .i64 keyed3 Tryz.underlying128 Tryz.underlying3 (zero3 _) G.mb nm D rfl HLA.out.m _ _ rfl HK.out ?_;intro c hat hwc;rw[HH.out]) | (go_at_call 115;refine (HIR.out _).mono ?_;rintro o w1 ⟨rfl,rfl⟩))
  have hF:blk ((W.alloc (.cells [.bool F.e,.int .u32 (F.i:Int),.bool F.r,.int .i64 F.d,.slice fa fm fc].toArray 25)).alloc (.cells [.int .i64 5,.int .i64 0,.int .i64 1,.bool false,.int .u32 0,.bool false,.int .i64 0,.slice none 0 0].toArray 46)) (W.heap.size+1) [.int .i64 5,.int .i64 0,.int .i64 1,.bool false,.int .u32 0,.bool false,.int .i64 0,.slice none 0 0] 46:=by
   have:=blk.new (W.alloc (.cells [.bool F.e,.int .u32 (F.i:Int),.bool F.r,.int .i64 F.d,.slice fa fm fc].toArray 25)) [.int .i64 5,.int .i64 0,.int .i64 1,.bool false,.int .u32 0,.bool false,.int .i64 0,.slice none 0 0] 46
   have e:(W.alloc (.cells [.bool F.e,.int .u32 (F.i:Int),.bool F.r,.int .i64 F.d,.slice fa fm fc].toArray 25)).heap.size=W.heap.size+1:=by simp
   rw[e] at this
   exact this
  have hL:=run_loadVar_mid (P:=Tryz.prog) ((W.alloc (.cells [.bool F.e,.int .u32 (F.i:Int),.bool F.r,.int .i64 F.d,.slice fa fm fc].toArray 25)).alloc (.cells [.int .i64 5,.int .i64 0,.int .i64 1,.bool false,.int .u32 0,.bool false,.int .i64 0,.slice none 0 0].toArray 46)) (W.heap.size+1) 0 46 _ _ hF.load Tryz.underlying46 rfl sz129
  refine bodyPost_ret (v:=.agg [.int .i64 5,.int .i64 0,.int .i64 1,.bool false,.int .u32 0,.bool false,.int .i64 0,.slice none 0 0].toArray) (results_cell Tryz.results119 _ ((W.alloc (.cells [.bool F.e,.int .u32 (F.i:Int),.bool F.r,.int .i64 F.d,.slice fa fm fc].toArray 25)).alloc (.cells [.int .i64 5,.int .i64 0,.int .i64 1,.bool false,.int .u32 0,.bool false,.int .i64 0,.slice none 0 0].toArray 46)) (W.heap.size+1) _ rfl hL) rfl ?_
  rw[HRF.out]
  exact⟨rfl,((Below.refl _ _).alloc (Nat.le_refl _) _).alloc (by simp) _⟩
end Go.Proofs.YtaamahohdnbpiaaGreat
