import Derived.Test.YtkfcfigbgmbaiaaGreatK36
import Derived.Test.YtkfcfigbgmbaiaaGreatK29
namespace Go.Proofs.YtkfcfigbgmbaiaaGreat
open Go.RowKit
set_option linter.unusedVariables false
variable {bx:List R8}
theorem busy_none (h:busyN bx=0):¬ wrP bx:=fun hw=>hw fun k hk ho=>by
 have:=busyN_pos hk (by rcases ho with e | e <;> simp[e])
 omega
theorem busy_set {i:Nat} (hi:i<bx.length) (b:R8) (h1:busyN bx≤1) (hx:bx[i].x=2∨bx[i].x=3) (hb:b.x=0∨b.x=1):busyN (bx.set i b)=0:=by
 have e:=busyN_set hi b
 rw[if_pos (by rcases hx with e | e <;> simp[e]),if_neg (by rcases hb with e | e <;> simp[e])] at e
 omega
theorem wire_none (h:¬ wI bx<bx.length):¬ wrP bx:=fun hw=>hw fun k hk ho=>h (by
 have:onWb bx[k]=true:=by rcases ho with e | e <;> simp[onWb,e]
 exact List.findIdx_lt_length_of_exists ⟨_,List.getElem_mem hk,this⟩)
theorem okHo.rel_wr {H:Ho} (h:okHo H) (sent:Bool):¬ wrP (relHo H sent).bx:=by
 unfold relHo
 split
 ·rename_i hw
  have hx:=wire_at hw
  have h1:=h.bx.2.2
  split
  ·exact busy_none (busy_set hw z8 h1 hx (.inl rfl))
  ·split
   ·exact busy_none (busy_set hw z8 h1 hx (.inl rfl))
   ·unfold stHo
    rw[dif_pos hw]
    exact busy_none (busy_set hw _ h1 hx (.inr rfl))
 ·rename_i hw
  exact wire_none hw
theorem fltC_ok {C:Co} {k:Int} (h:okFa C k):okCo (actC C (fltC C k)):=by
 obtain⟨hok,hp,hk⟩:=h
 have hH:okHo (pH C.ho (ev3 8 k (if C.tx then 1 else 0))):=hok.h.post (tag_ev (by omega) (by omega) (by split <;> omega))
 have hF:okHo (fltH C k):=hH.rel false
 have hW:¬ wrP (fltH C k).bx:=hH.rel_wr false
 have hf:=fwZ_in C.tx (fltO C k) C.p k
 have hm:=hok.m
 have hmr:=hm.re
 have hmt:=hm.te
 have e0:(fltC C k).ho=fltH C k:=by unfold fltC addC;split <;> rfl
 have e1:(fltC C k).te=if C.tx then (if 256≤C.te+fwZ C.tx (fltO C k) C.p k then 256 else C.te+fwZ C.tx (fltO C k) C.p k) else C.te:=by unfold fltC addC;split <;> rfl
 have e2:(fltC C k).re=if C.tx then C.re else min (C.re+fwZ C.tx (fltO C k) C.p k) 255:=by unfold fltC addC;split <;> rfl
 have e3:(fltC C k).wk=fltW C∧(fltC C k).ow=fltO C k∧(fltC C k).tx=C.tx∧(fltC C k).ak=C.ak∧(fltC C k).rn=C.rn:=by unfold fltC addC;split <;> exact⟨rfl,rfl,rfl,rfl,rfl⟩
 have hr:0≤(fltC C k).re∧(fltC C k).re≤255:=by rw[e2];split <;> omega
 have ht:0≤(fltC C k).te∧(fltC C k).te≤256:=by rw[e1];split <;> (try split) <;> omega
 have hak:C.ak=false:=by
  cases e:C.ak
  ·rfl
  ·have:=hm.ak e;omega
 refine okCo.act (fun e=>?_) (e0 ▸ hF) hr (fun _ _=>e0 ▸ hW)
 have ep:(fltC C k).p=2:=rfl
 have ht2:(fltC C k).te≠256:=by
  rcases e with e|e
  ·exact e
  ·rw[ep] at e;omega
 refine⟨e0 ▸ hF,?_,⟨fun e=>absurd e.1 (by rw[ep];decide),fun e=>absurd e (e0 ▸ hW)⟩⟩
 refine⟨by rw[ep];decide,ht,hr,⟨fun e=>absurd e (by rw[ep];decide),fun e=>absurd e ht2⟩,by rw[ep];show rLo 2≤0∧0≤rHi 2;decide,by show (0:Int)≤0∧(0:Int)≤1;decide,fun e=>absurd e (by show ¬ (0:Int)=1;decide),fun _=>⟨ep,rfl⟩,fun e=>absurd e (by show ¬ false=true;decide),fun e=>?_,fun _=>by rw[ep];decide,fun e=>absurd e (by rw[ep];decide),fun e=>?_,e3.2.2.2.2 ▸ hm.rn,fun _=>⟨e3.2.2.2.2 ▸ (hm.na hak).1,fun e=>absurd e (by rw[ep];decide)⟩⟩
 ·rw[e3.2.1] at e
  unfold fltO at e
  simp at e
  exact⟨e3.1.trans e.1.1,e3.2.2.1.trans e.1.2⟩
 ·rw[e3.2.2.2.1,hak] at e
  cases e
def noS (H:Ho):Prop:=∀ e ∈ H.qu,e.x≠10
theorem noS.post {H:Ho} (h:noS H) {e:R8} (he:e.x≠10):noS (pH H e):=by
 intro x hx;have hx:x ∈ quP H.c3 H.qu e:=hx
 unfold quP at hx
 split at hx
 ·rcases List.mem_append.1 hx with q|q
  ·exact h x q
  ·rw[List.mem_singleton.1 q];exact he
 ·exact h x hx
theorem noS.rel {H:Ho} (h:noS H) (sent:Bool):noS (relHo H sent):=by
 unfold relHo
 split
 ·split
  ·exact noS.post (H:=freeHo H _) h (by show ¬ (1:Int)=10;decide)
  ·split
   ·exact noS.post (H:=freeHo H _) h (by show ¬ (6:Int)=10;decide)
   ·unfold stHo
    split <;> exact h
 ·exact h
theorem tell_ev (X:Co) (b:Int) (hl:0≤X.ho.lo):(stZ X.te X.re=b∧(tellC X b).ho=X.ho)∨(stZ X.te X.re≠b∧(tellC X b).ho.qu=X.ho.qu++[⟨10,stZ X.te X.re,0,false,0,false,0,[]⟩]∧(tellC X b).ho.lo=X.ho.lo)∨(stZ X.te X.re≠b∧(tellC X b).ho.qu=X.ho.qu∧0<(tellC X b).ho.lo):=by
 unfold tellC
 by_cases e:stZ X.te X.re=b
 ·rw[if_pos e];exact .inl ⟨e,rfl⟩
 rw[if_neg e]
 right
 by_cases q:(X.ho.qu.length:Int)<X.ho.c3
 ·left
  exact⟨e,if_pos q,if_pos q⟩
 ·right
  refine⟨e,if_neg q,?_⟩
  show 0<loP _ _ _
  unfold loP
  rw[if_neg q]
  split <;> omega
variable {C:Co}
theorem okCo.nw (h:okCo C) (hp:C.p≠1):¬ wrP C.ho.bx:=fun w=>hp (h.s.2 w).1
theorem okCo.of {A:Co} (hH:okHo A.ho) (hw:¬ wrP A.ho.bx) (hm:okM A) (h1:A.p=1→A.tx=false):okCo A:=
 ⟨hH,hm,⟨fun e=>by rw[h1 e.1] at e;exact absurd e.2 (by decide),fun e=>absurd e hw⟩⟩
theorem idC_ok (h:okCo C) (hp:C.p=0) (bit:Int):okCo (idC C bit):=by
 have hw:=h.nw (by omega)
 have hH:=h.h
 obtain⟨m1,m2,m3,m4,m5,m6,m7,m8,m9,m10,m11,m12,m13,m14,m15⟩:=h.m
 clear h;obtain⟨p,ct,lv,wk,ov,ow,tx,ak,rn,te,re,H⟩:=C
 dsimp only at *
 subst hp;unfold idC
 split
 all_goals
  refine okCo.of hH hw ?_ ?_
  ·constructor <;> dsimp only <;> first | assumption | omega | (revert m1 m2 m3 m4 m5 m6 m7 m8 m9 m10 m11 m12 m13 m14 m15;cases wk <;> cases ov <;> cases ow <;> cases tx <;> cases ak <;> simp[rLo,rHi] <;> omega)
  ·dsimp only;revert m11;cases tx <;> simp
theorem suC_ok (h:okCo C) (hp:C.p=6) (bit:Int):okCo (suC C bit):=by
 have hw:=h.nw (by omega)
 have hH:=h.h
 obtain⟨m1,m2,m3,m4,m5,m6,m7,m8,m9,m10,m11,m12,m13,m14,m15⟩:=h.m
 clear h;obtain⟨p,ct,lv,wk,ov,ow,tx,ak,rn,te,re,H⟩:=C
 dsimp only at *
 subst hp;unfold suC
 (repeat' split)
 all_goals
  refine okCo.of hH hw ?_ ?_
  ·constructor <;> dsimp only at * <;> first | assumption | omega | (revert m1 m2 m3 m4 m5 m6 m7 m8 m9 m10 m11 m12 m13 m14 m15;cases wk <;> cases ov <;> cases ow <;> cases tx <;> cases ak <;> simp[rLo,rHi] <;> omega)
  ·dsimp only;first | (intro e;rfl) | (intro e;omega)
variable {C:Co}
theorem okCo.act1 {A:Co} (h:okCo A):okCo (actC C A):=okCo.act (fun _=>h) h.h h.m.re fun e1 e2=>absurd (h.m.of.2 e1) e2
theorem ovC_ok (h:okCo C) (hp:C.p=4∨C.p=5):okCo (ovC C):=by
 have hv:okHo (pH C.ho (ev3 9 0 0)):=h.h.post (tag_ev (by omega) (by omega) (by omega))
 have hw:=h.nw (by omega)
 have hH:=h.h
 obtain⟨m1,m2,m3,m4,m5,m6,m7,m8,m9,m10,m11,m12,m13,m14,m15⟩:=h.m
 clear h;obtain⟨p,ct,lv,wk,ov,ow,tx,ak,rn,te,re,H⟩:=C
 dsimp only at *
 unfold ovC
 rcases hp with hp|hp
 all_goals
  subst hp;refine okCo.of hv hw ?_ ?_
  ·constructor <;> dsimp only at * <;> first | assumption | omega | (revert m1 m2 m3 m4 m5 m6 m7 m8 m9 m10 m11 m12 m13 m14 m15;cases wk <;> cases ov <;> cases ow <;> cases tx <;> cases ak <;> simp[rLo,rHi] <;> omega)
  ·intro e;exact absurd e (by show ¬ (2:Int)=1;decide)
theorem dlC_ok (h:okCo C) (hp:C.p=4) (bit:Int):okCo (actC C (dlC C bit)):=by
 unfold dlC
 by_cases b0:bit=0
 ·rw[if_pos b0]
  by_cases c7:C.ct=7
  ·rw[if_pos c7];exact (ovC_ok h (.inl hp)).act1
  ·rw[if_neg c7];exact fltC_ok ⟨h,.inr (.inr hp),by omega⟩
 rw[if_neg b0]
 refine okCo.act1 ?_
 have hw:=h.nw (by omega)
 have hH:=h.h
 obtain⟨m1,m2,m3,m4,m5,m6,m7,m8,m9,m10,m11,m12,m13,m14,m15⟩:=h.m
 clear h;obtain⟨p,ct,lv,wk,ov,ow,tx,ak,rn,te,re,H⟩:=C
 dsimp only at *
 subst hp;split
 all_goals
  refine okCo.of hH hw ?_ ?_
  ·constructor <;> dsimp only at * <;> first | assumption | omega | (revert m1 m2 m3 m4 m5 m6 m7 m8 m9 m10 m11 m12 m13 m14 m15;cases wk <;> cases ov <;> cases ow <;> cases tx <;> cases ak <;> simp[rLo,rHi] <;> omega)
  ·dsimp only;first | (intro e;rfl) | (intro e;omega)
theorem ofC_ok (h:okCo C) (hp:C.p=7) (bit:Int):okCo (actC C (ofC C bit)):=by
 refine okCo.act1 ?_
 have hw:=h.nw (by omega)
 have hH:=h.h
 obtain⟨m1,m2,m3,m4,m5,m6,m7,m8,m9,m10,m11,m12,m13,m14,m15⟩:=h.m
 clear h;obtain⟨p,ct,lv,wk,ov,ow,tx,ak,rn,te,re,H⟩:=C
 dsimp only at *
 subst hp;unfold ofC bkC
 (repeat' split)
 all_goals
  refine okCo.of hH hw ?_ ?_
  ·constructor <;> dsimp only at * <;> first | assumption | omega | (revert m1 m2 m3 m4 m5 m6 m7 m8 m9 m10 m11 m12 m13 m14 m15;cases wk <;> cases ov <;> cases ow <;> cases tx <;> cases ak <;> simp[rLo,rHi] <;> (try omega) <;> simp_all)
  ·dsimp only;first | (intro e;rfl) | (intro e;omega)
theorem waC_ok {C:Co} (h:okCo C) (hp:C.p=3) (bit:Int):okCo (actC C (waC C bit)):=by
 have hw:=h.nw (by omega)
 have hH:=h.h
 obtain⟨m1,m2,m3,m4,m5,m6,m7,m8,m9,m10,m11,m12,m13,m14,m15⟩:=h.m
 clear h;have hE:(waC C bit).ho=C.ho:=by unfold waC addC;(repeat' split) <;> rfl
 have hR:0≤(waC C bit).re∧(waC C bit).re≤255:=by unfold waC addC;(repeat' split) <;> dsimp only <;> omega
 refine okCo.act (fun e=>okCo.of (hE ▸ hH) (hE ▸ hw) ?_ ?_) (hE ▸ hH) hR (fun _ _=>hE ▸ hw)
 all_goals
  clear hE hR hw hH;obtain⟨p,ct,lv,wk,ov,ow,tx,ak,rn,te,re,H⟩:=C
  dsimp only at *
  subst hp;have m5a:0≤ct∧ct≤15:=m5
  have hv:=m8
  have hak:ak=false:=by cases ak;rfl;exact absurd (m13 rfl) (by decide)
  have hwk:wk=false:=by cases wk;rfl;exact absurd (m8 rfl).1 (by decide)
  have how:ow=false:=by cases ow;rfl;exact absurd (hwk ▸ (m10 rfl).1) (by decide)
  have hlv:lv=0:=by
   by_cases q:lv=1
   ·exact absurd (m7 q).1 (by decide)
   ·omega
  have hrn:=(m15 hak).1
  have hte:te≠256:=fun q=>absurd (m4.2 q) (by decide)
  subst hak hwk how hlv hrn;clear m1 m4 m5 m6 m7 m8 hv m10 m11 m12 m13 m14 m15 m9;revert e
  unfold waC addC
  dsimp only
 ·(repeat' split)
  all_goals
   intro e;constructor <;> dsimp only at * <;> first | omega | (simp[rLo,rHi] <;> omega) | (cases tx <;> cases ov <;> simp_all [rLo,rHi] <;> omega)
 ·(repeat' split)
  all_goals
   intro e q;dsimp only at q
   omega
theorem wfC_ok {C:Co} (h:okCo C) (hp:C.p=2) (hk:C.wk=true) (bit:Int) (hb:bit=0∨bit=1):okCo (actC C (wfX (wfO C bit) bit)):=by
 have hw:=h.nw (by omega)
 have hH:=h.h
 obtain⟨m1,m2,m3,m4,m5,m6,m7,m8,m9,m10,m11,m12,m13,m14,m15⟩:=h.m
 clear h;have hE:(wfX (wfO C bit) bit).ho=C.ho:=by unfold wfX wfO addC;(repeat' split) <;> rfl
 have hR:0≤(wfX (wfO C bit) bit).re∧(wfX (wfO C bit) bit).re≤255:=by unfold wfX wfO addC;(repeat' split) <;> dsimp only <;> omega
 refine okCo.act (fun e=>okCo.of (hE ▸ hH) (hE ▸ hw) ?_ ?_) (hE ▸ hH) hR (fun _ _=>hE ▸ hw)
 all_goals
  clear hE hR hw hH;obtain⟨p,ct,lv,wk,ov,ow,tx,ak,rn,te,re,H⟩:=C
  dsimp only at *
  subst hp hk;have m5a:0≤ct∧ct≤5:=m5
  have hak:ak=false:=by cases ak;rfl;exact absurd (m13 rfl) (by decide)
  have hov:ov=false:=(m8 rfl).2
  have hrn:=(m15 hak).1
  have hte:te≠256:=fun q=>absurd (m4.2 q) (by decide)
  have h10:ow=true→tx=true:=fun q=>(m10 q).2
  have h7:lv=1→0<ct:=fun q=>(m7 q).2.2
  subst hak hov hrn;clear m1 m4 m5 m7 m8 m10 m11 m12 m13 m14 m15 m9;revert e
  unfold wfX wfO addC
  dsimp only
 ·(repeat' split)
  all_goals
   intro e;dsimp only at *
   constructor <;> dsimp only <;> first | omega | (simp[rLo,rHi] <;> omega) | (cases tx <;> cases ow <;> simp_all [rLo,rHi] <;> omega)
 ·(repeat' split)
  all_goals
   intro e q;dsimp only at q
   omega
theorem flC_ok {C:Co} (h:okCo C) (hp:C.p=2) (bit:Int) (hb:bit=0∨bit=1):okCo (actC C (flC C bit)):=by
 unfold flC
 by_cases hk:C.wk=true
 ·rw[if_pos hk];exact wfC_ok h hp hk bit hb
 rw[if_neg hk]
 by_cases b1:bit=1
 ·rw[if_pos b1];exact fltC_ok ⟨h,.inr (.inl hp),by omega⟩
 rw[if_neg b1]
 refine okCo.act1 ?_
 have hw:=h.nw (by omega)
 have hH:=h.h
 obtain⟨m1,m2,m3,m4,m5,m6,m7,m8,m9,m10,m11,m12,m13,m14,m15⟩:=h.m
 clear h;obtain⟨p,ct,lv,wk,ov,ow,tx,ak,rn,te,re,H⟩:=C
 dsimp only at *
 subst hp;have m5a:0≤ct∧ct≤5:=m5
 have hwk:wk=false:=by simpa using hk
 subst hwk;split
 all_goals
  refine okCo.of hH hw ?_ ?_
  ·constructor <;> dsimp only at * <;> first | assumption | omega | (revert m1 m2 m3 m4 m6 m7 m8 m9 m10 m11 m12 m13 m14 m15;cases ov <;> cases ow <;> cases tx <;> cases ak <;> simp[rLo,rHi] <;> omega)
  ·dsimp only;first | (intro e;rfl) | (intro e;omega)
theorem take_wr {bx:List R8} {r:Int} (hb:bestR bx r) (h0:0≤r) (hw:¬ wrP bx):wrP (takeB bx r):=by
 rcases hb with⟨e,_⟩|⟨i,e,hi,hx,_⟩
 ·omega
 ·subst e;have hn:∀ k (h:k<bx.length),¬ onW bx[k]:=Classical.not_not.1 hw
  rw[takeB_yes hi hx (r:=-1) (.inr ⟨hn,rfl⟩) (by decide)]
  intro hc;exact hc i (by simpa using hi) (.inl (by simp))
theorem gpC_ok {C:Co} (h:okCo C) (hp:C.p=5) (bit r:Int) (hb:bestR C.ho.bx r):okCo (actC C (gpC C bit r)):=by
 refine okCo.act1 ?_
 have hw:=h.nw (by omega)
 have hH:=h.h
 have hV:=ovC_ok h (.inr hp)
 have hT:=hH.take r
 have hTW:0≤r→wrP (takeHo C.ho r).bx:=fun h0=>take_wr hb h0 hw
 obtain⟨m1,m2,m3,m4,m5,m6,m7,m8,m9,m10,m11,m12,m13,m14,m15⟩:=h.m
 clear h;unfold gpC
 by_cases b0:bit=0
 ·rw[if_pos b0]
  by_cases c2:C.ct<2
  ·rw[if_pos c2];exact hV
  rw[if_neg c2]
  clear hV;unfold jnC
  split
  ·next hj=>
   have hr:0≤r:=by simp at hj;exact hj.1
   refine⟨hT,?_,⟨fun _=>hTW hr,fun _=>⟨rfl,rfl⟩⟩⟩
   clear hT hTW hw hH hb hj;obtain⟨p,ct,lv,wk,ov,ow,tx,ak,rn,te,re,H⟩:=C
   dsimp only at *
   subst hp;constructor <;> dsimp only at * <;> first | assumption | omega | (revert m1 m2 m3 m4 m5 m6 m7 m8 m9 m10 m11 m12 m13 m14 m15;cases wk <;> cases ov <;> cases ow <;> cases tx <;> cases ak <;> simp[rLo,rHi] <;> omega)
  ·refine okCo.of hH hw ?_ (fun _=>rfl)
   clear hT hTW hw hH hb;obtain⟨p,ct,lv,wk,ov,ow,tx,ak,rn,te,re,H⟩:=C
   dsimp only at *
   subst hp;constructor <;> dsimp only at * <;> first | assumption | omega | (revert m1 m2 m3 m4 m5 m6 m7 m8 m9 m10 m11 m12 m13 m14 m15;cases wk <;> cases ov <;> cases ow <;> cases tx <;> cases ak <;> simp[rLo,rHi] <;> omega)
 ·rw[if_neg b0]
  clear hV hT hTW hb;split
  ·unfold lgC msB
   split
   ·next hm=>
    have htx:C.tx=true:=by simp at hm;exact hm.1
    clear hm;refine okCo.of hH hw ?_ (fun e=>absurd e (by show ¬ (6:Int)=1;decide))
    clear hw hH;obtain⟨p,ct,lv,wk,ov,ow,tx,ak,rn,te,re,H⟩:=C
    dsimp only at *
    subst hp htx;constructor <;> dsimp only at * <;> first | assumption | omega | (revert m1 m2 m3 m4 m5 m6 m7 m8 m9 m10 m11 m12 m13 m14 m15;cases wk <;> cases ov <;> cases ow <;> cases ak <;> simp[rLo,rHi] <;> omega)
   ·refine okCo.of hH hw ?_ (fun _=>rfl)
    clear hw hH;obtain⟨p,ct,lv,wk,ov,ow,tx,ak,rn,te,re,H⟩:=C
    dsimp only at *
    subst hp;constructor <;> dsimp only at * <;> first | assumption | omega | (revert m1 m2 m3 m4 m5 m6 m7 m8 m9 m10 m11 m12 m13 m14 m15;cases wk <;> cases ov <;> cases ow <;> cases tx <;> cases ak <;> simp[rLo,rHi] <;> omega)
  ·next hc=>
   refine okCo.of hH hw ?_ (fun e=>absurd (hp.symm.trans e) (by decide))
   clear hw hH;obtain⟨p,ct,lv,wk,ov,ow,tx,ak,rn,te,re,H⟩:=C
   dsimp only at *
   subst hp;constructor <;> dsimp only at * <;> first | assumption | omega | (revert m1 m2 m3 m4 m5 m6 m7 m8 m9 m10 m11 m12 m13 m14 m15;cases wk <;> cases ov <;> cases ow <;> cases tx <;> cases ak <;> simp[rLo,rHi] <;> omega)
theorem stpC_ok {C:Co} {bit:Int} (h:okCo C∧C.p≠1∧(bit=0∨bit=1)) (r:Int) (hb:bestR C.ho.bx r):okCo (actC C (stpC C bit r)):=by
 obtain⟨hok,h1,hbit⟩:=h
 have hp:=hok.m.p
 unfold stpC
 by_cases p0:C.p=0
 ·rw[if_pos p0];exact (idC_ok hok p0 bit).act1
 by_cases p2:C.p=2
 ·rw[if_neg p0,if_pos p2];exact flC_ok hok p2 bit hbit
 by_cases p3:C.p=3
 ·rw[if_neg p0,if_neg p2,if_pos p3];exact waC_ok hok p3 bit
 by_cases p4:C.p=4
 ·rw[if_neg p0,if_neg p2,if_neg p3,if_pos p4];exact dlC_ok hok p4 bit
 by_cases p5:C.p=5
 ·rw[if_neg p0,if_neg p2,if_neg p3,if_neg p4,if_pos p5];exact gpC_ok hok p5 bit r hb
 by_cases p6:C.p=6
 ·rw[if_neg p0,if_neg p2,if_neg p3,if_neg p4,if_neg p5,if_pos p6];exact (suC_ok hok p6 bit).act1
 rw[if_neg p0,if_neg p2,if_neg p3,if_neg p4,if_neg p5,if_neg p6,if_pos (by omega)]
 exact ofC_ok hok (by omega) bit
set_option maxRecDepth 20000
set_option maxHeartbeats 16000000
open Go.Value renaming int→I,slice→sL,bool→bO,pointer→pT,agg→aG
open Go.IntKind renaming i64→J
open Go.Ending renaming returned→rT
open Go.Proofs.Tryz renaming prog→Tp
variable {ops:Array Oper} {w:World} {Q:Act→Prop} {op:Oper} {a:Act} {rest:List Oper} {fs:List R3} {F:R5}
theorem wpStill_skip (hw:Region.wanted op (yielded ops a.tmps)=false) (h:wpStill Tp ops w Q rest (a.put op.dst undef)):wpStill Tp ops w Q (op :: rest) a:=
 wpStill_step fun K hK=>by
  rw[hw]
  exact hK _ h
theorem wpStill_ok (v:Value) (hw:Region.wanted op (yielded ops a.tmps)=true) (hx:(execOp a.eval op).run Tp w = .ok (.value v) w) (h:wpStill Tp ops w Q rest (a.put op.dst v)):wpStill Tp ops w Q (op :: rest) a:=
 wpStill_step fun K hK=>by
  simp only[hw,if_true]
  unfold Oper.still
  rw[hx]
  exact⟨rfl,hK _ h⟩
def offB (j t:Nat) (o:Oper):Bool:=(match o.guard with | some (i,true)=>i == j | _=>false) && (match o.dst with | some d=>d != t | none=>true)
theorem wpStill_skips {j t:Nat} (hj:((ops[j]?).bind (·.dst))=some t) {rest:List Oper}:∀ (l:List Oper) (a:Act),l.all (offB j t)=true→a.tmps[t]?=some (bO false)→wpStill Tp ops w Q rest (l.foldl (fun a o=>a.put o.dst undef) a)→wpStill Tp ops w Q (l++rest) a
 | [],a,_,_,h=>h
 | o :: l,a,hall,ht,h=>by
  simp only[List.all_cons,Bool.and_eq_true] at hall
  obtain⟨ho,hall⟩:=hall
  unfold offB at ho
  simp only[Bool.and_eq_true] at ho
  refine wpStill_skip ?_ (wpStill_skips hj l _ hall ?_ h)
  ·unfold Region.wanted
   revert ho
   rcases o.guard with _|⟨i,b⟩
   ·simp
   ·cases b
    ·simp
    ·intro ho;have e:i=j:=by simpa using ho.1
     subst e;simp only[yielded,hj,Option.bind_some,ht]
     rfl
  ·revert ho
   rcases hd:o.dst with _|d
   ·intro _;simpa[Act.put] using ht
   ·intro ho;have hne:d≠t:=by simpa using ho.2
    simp only[Act.put]
    rw[Array.getElem?_setIfInBounds_ne hne]
    exact ht
theorem wpStill_off {L:List Oper} (n:Nat) {j t:Nat} (hj:((ops[j]?).bind (·.dst))=some t) (hw:op.guard=none) (hd:op.dst=some t) (hx:(execOp a.eval op).run Tp w = .ok (.value (bO false)) w) (ht:t<a.tmps.size) (hall:(L.take n).all (offB j t)=true) (h:wpStill Tp ops w Q (L.drop n) ((L.take n).foldl (fun a o=>a.put o.dst undef) (a.put (some t) (bO false)))):wpStill Tp ops w Q (op :: L) a:=by
 refine wpStill_ok (bO false) (by unfold Region.wanted;rw[hw]) hx ?_
 rw[hd,← List.take_append_drop n L]
 refine wpStill_skips hj _ _ hall ?_ ?_
 ·simp only[Act.put]
  rw[Array.getElem?_setIfInBounds_self_of_lt ht]
 ·exact h
def pass1 (F:R5) (x:R3):Bool:=x.e == F.e && (bits .and .u32 (F.i:Int) x.m == bits .and .u32 x.k x.m)
def passB (fs:List R3) (F:R5):Bool:=fs.any (pass1 F) || fs.length == 0
theorem b0 (n:Nat):((n:Int) == 0)=(n == 0):=by
 rw[Bool.eq_iff_iff]
 simp
theorem passB_yes {k:Nat} (hk:k<fs.length) (h:pass1 F fs[k]=true):passB fs F=true:=by
 unfold passB
 have:fs.any (pass1 F)=true:=List.any_eq_true.2 ⟨_,List.getElem_mem hk,h⟩
 rw[this]
 rfl
theorem passB_no (h:∀ j (hj:j<fs.length),pass1 F fs[j]=false):passB fs F=(fs.length == 0):=by
 unfold passB
 have:fs.any (pass1 F)=false:=by
  rw[List.any_eq_false]
  intro x hx;obtain⟨j,hj,rfl⟩:=List.getElem_of_mem hx
  rw[h j hj]
  simp
 rw[this]
 rfl
theorem l3passes_any (w:World) (a:Option Addr) (n cap:Nat) (fs:List R3) (F:R5) (fa:Option Addr) (fm fc:Nat) (h:isR3s w a n cap fs) (hn:n≤1000) :
  Calls Tp 155 #[sL a n cap,frV F.e F.i F.r F.d fa fm fc] w fun o w'=>o = rT (bO (passB fs F))∧Below w.heap.size w w':=by
 obtain⟨fE,fI,fR,fD,fL⟩:=F
 have hcp:=h.cap
 have HL:Hid (n=fs.length):=h.len
 have HH:Hid (isR3s w a n cap fs):=h
 have HP:Hid (blk (w.alloc (.cells [bO fE,I .u32 (fI:Int),bO fR,I J fD,sL fa fm fc].toArray 55)) w.heap.size [bO fE,I .u32 (fI:Int),bO fR,I J fD,sL fa fm fc] 55):=blk.new w _ 55
 have HB0:Hid (Below w.heap.size w (w.alloc (.cells [bO fE,I .u32 (fI:Int),bO fR,I J fD,sL fa fm fc].toArray 55))):=(bW _ _).alloc (nR _) _
 clear h;go_enter Tryz.func155,Tryz.ntmps155
 go_wp2_with fail;go_loopw [5] (fun i wr=>∃ k:Nat,k≤n∧i = I J (k:Int)∧(∀ j (hj:j<fs.length),j<k→pass1 ⟨fE,fI,fR,fD,fL⟩ fs[j]=false)∧Below w.heap.size w wr∧blk wr w.heap.size [bO fE,I .u32 (fI:Int),bO fR,I J fD,sL fa fm fc] 55) (fun i _=>n-(intOf i).toNat)
 case atStart=>exact⟨0,nZ _,rfl,fun j hj h=>absurd h (nN _),HB0.out,HP.out⟩
 case round=>
  obtain⟨k,hk,rfl,hdone,hb,hp⟩:=hrel
  have HB:Hid (Below w.heap.size w wr∧blk wr w.heap.size [bO fE,I .u32 (fI:Int),bO fR,I J fD,sL fa fm fc] 55):=⟨hb,hp⟩
  have HDN:Hid (∀ j (hj:j<fs.length),j<k→pass1 ⟨fE,fI,fR,fD,fL⟩ fs[j]=false):=hdone
  clear hb hp hdone;by_cases hlt:k<n
  ·have hkl:k<fs.length:=by have:=HL.out;omega
   obtain⟨g,off,rfl,hc⟩:=HH.out.cells (by intro e;rw[e] at hkl;cases hkl)
   have h0:=(hc k hkl).below HB.out.1
   have HNX:Hid (pass1 ⟨fE,fI,fR,fD,fL⟩ fs[k]=false→∀ j (hj:j<fs.length),j<k+1→pass1 ⟨fE,fI,fR,fD,fL⟩ fs[j]=false):=fun hx j hj hjk=>by
    by_cases e:j=k
    ·subst e;exact hx
    ·exact HDN.out j hj (by omega)
   have HYS:Hid (pass1 ⟨fE,fI,fR,fD,fL⟩ fs[k]=true→passB fs ⟨fE,fI,fR,fD,fL⟩=true):=passB_yes hkl
   clear hc HDN;have y0:=h0.c0
   have y1:=h0.c1
   have y2:=h0.c2
   have z0:=HB.out.2.cell 0 _ rfl
   have z1:=HB.out.2.cell 1 _ rfl
   clear h0;generalize fs[k]=b at *;obtain⟨e,mm,kk⟩:=b
   simp only[] at y0 y1 y2
   by_cases he:e=fE
   ·subst he;by_cases hx:(bits .and .u32 (fI:Int) mm == bits .and .u32 kk mm)=true
    ·have HT:Hid (passB fs ⟨e,fI,fR,fD,fL⟩=true):=HYS.out (by unfold pass1;simp only[hx,Bool.and_true,beq_self_eq_true])
     go_wp2_with fail;refine wp_region_still_lit (by kernel_rfl) (by kernel_rfl) ?_
     change wpStill Tp _ (World.drew wr) (fun a'=>Exit.then _ _ Exit.normal a' (World.drew wr)) _ _
     have y0:(World.drew wr).cell? ⟨g,off+k*3,none⟩=some (bO e):=y0
     have y1:(World.drew wr).cell? ⟨g,off+k*3+1,none⟩=some (I .u32 mm):=y1
     have y2:(World.drew wr).cell? ⟨g,off+k*3+2,none⟩=some (I .u32 kk):=y2
     have z0:(World.drew wr).cell? ⟨w.heap.size,0,none⟩=some (bO e):=z0
     have z1:(World.drew wr).cell? ⟨w.heap.size,1,none⟩=some (I .u32 (fI:Int)):=z1
     have HB:Hid (Below w.heap.size w (World.drew wr)∧blk (World.drew wr) w.heap.size [bO e,I .u32 (fI:Int),bO fR,I J fD,sL fa fm fc] 55):=⟨HB.out.1.drew,HB.out.2.below (bW _ _).drew⟩
     generalize World.drew wr=v0 at *;repeat (still_step)
     refine wpStill_nil ?_
     go_wp2_with fail;go_ret;exact⟨by rw[HT.out];rfl,HB.out.1⟩
    ·have hx':(bits .and .u32 (fI:Int) mm == bits .and .u32 kk mm)=false:=by simpa using hx
     have HN:Hid (∀ j (hj:j<fs.length),j<k+1→pass1 ⟨e,fI,fR,fD,fL⟩ fs[j]=false):=HNX.out (by unfold pass1;simp only[hx',Bool.and_false])
     go_wp2_with fail;refine wp_region_still_lit (by kernel_rfl) (by kernel_rfl) ?_
     change wpStill Tp _ (World.drew wr) (fun a'=>Exit.then _ _ Exit.normal a' (World.drew wr)) _ _
     have y0:(World.drew wr).cell? ⟨g,off+k*3,none⟩=some (bO e):=y0
     have y1:(World.drew wr).cell? ⟨g,off+k*3+1,none⟩=some (I .u32 mm):=y1
     have y2:(World.drew wr).cell? ⟨g,off+k*3+2,none⟩=some (I .u32 kk):=y2
     have z0:(World.drew wr).cell? ⟨w.heap.size,0,none⟩=some (bO e):=z0
     have z1:(World.drew wr).cell? ⟨w.heap.size,1,none⟩=some (I .u32 (fI:Int)):=z1
     have HB:Hid (Below w.heap.size w (World.drew wr)∧blk (World.drew wr) w.heap.size [bO e,I .u32 (fI:Int),bO fR,I J fD,sL fa fm fc] 55):=⟨HB.out.1.drew,HB.out.2.below (bW _ _).drew⟩
     generalize World.drew wr=v0 at *;repeat (still_step)
     refine wpStill_nil ?_
     go_wp2_with fail;go_roundw
     case rel=>exact⟨k+1,by omega,by go_num,HN.out,HB.out.1,HB.out.2⟩
     case measure=>simp[intOf];omega
   ·have HN:Hid (∀ j (hj:j<fs.length),j<k+1→pass1 ⟨fE,fI,fR,fD,fL⟩ fs[j]=false):=HNX.out (by unfold pass1;simp[he])
    cases e
    ·cases fE
     ·exact absurd rfl he
     ·clear he;go_wp2_with fail;refine wp_region_still_lit (by kernel_rfl) (by kernel_rfl) ?_
      change wpStill Tp _ (World.drew wr) (fun a'=>Exit.then _ _ Exit.normal a' (World.drew wr)) _ _
      have y0:(World.drew wr).cell? ⟨g,off+k*3,none⟩=some (bO false):=y0
      have y1:(World.drew wr).cell? ⟨g,off+k*3+1,none⟩=some (I .u32 mm):=y1
      have y2:(World.drew wr).cell? ⟨g,off+k*3+2,none⟩=some (I .u32 kk):=y2
      have z0:(World.drew wr).cell? ⟨w.heap.size,0,none⟩=some (bO true):=z0
      have z1:(World.drew wr).cell? ⟨w.heap.size,1,none⟩=some (I .u32 (fI:Int)):=z1
      have HB:Hid (Below w.heap.size w (World.drew wr)∧blk (World.drew wr) w.heap.size [bO true,I .u32 (fI:Int),bO fR,I J fD,sL fa fm fc] 55):=⟨HB.out.1.drew,HB.out.2.below (bW _ _).drew⟩
      generalize World.drew wr=v0 at *;iterate 8 still_step
      refine wpStill_off 20 (j:=8) (t:=20) rfl rfl rfl rfl (by simp) rfl ?_
      simp only[List.take_succ_cons,List.take_zero,List.drop_succ_cons,List.drop_zero,List.foldl_cons,List.foldl_nil,Act.put,aA,aB,aC]
      still_step
      refine wpStill_nil ?_
      go_wp2_with fail;go_roundw
      case rel=>exact⟨k+1,by omega,by go_num,HN.out,HB.out.1,HB.out.2⟩
      case measure=>simp[intOf];omega
    ·cases fE
     ·clear he;go_wp2_with fail;refine wp_region_still_lit (by kernel_rfl) (by kernel_rfl) ?_
      change wpStill Tp _ (World.drew wr) (fun a'=>Exit.then _ _ Exit.normal a' (World.drew wr)) _ _
      have y0:(World.drew wr).cell? ⟨g,off+k*3,none⟩=some (bO true):=y0
      have y1:(World.drew wr).cell? ⟨g,off+k*3+1,none⟩=some (I .u32 mm):=y1
      have y2:(World.drew wr).cell? ⟨g,off+k*3+2,none⟩=some (I .u32 kk):=y2
      have z0:(World.drew wr).cell? ⟨w.heap.size,0,none⟩=some (bO false):=z0
      have z1:(World.drew wr).cell? ⟨w.heap.size,1,none⟩=some (I .u32 (fI:Int)):=z1
      have HB:Hid (Below w.heap.size w (World.drew wr)∧blk (World.drew wr) w.heap.size [bO false,I .u32 (fI:Int),bO fR,I J fD,sL fa fm fc] 55):=⟨HB.out.1.drew,HB.out.2.below (bW _ _).drew⟩
      generalize World.drew wr=v0 at *;iterate 8 still_step
      refine wpStill_off 20 (j:=8) (t:=20) rfl rfl rfl rfl (by simp) rfl ?_
      simp only[List.take_succ_cons,List.take_zero,List.drop_succ_cons,List.drop_zero,List.foldl_cons,List.foldl_nil,Act.put,aA,aB,aC]
      still_step
      refine wpStill_nil ?_
      go_wp2_with fail;go_roundw
      case rel=>exact⟨k+1,by omega,by go_num,HN.out,HB.out.1,HB.out.2⟩
      case measure=>simp[intOf];omega
     ·exact absurd rfl he
  ·have hkn:k=n:=by omega
   subst hkn;have HT:Hid (passB fs ⟨fE,fI,fR,fD,fL⟩=(fs.length == 0)):=passB_no (fun j hj=>HDN.out j hj (by have:=HL.out;omega))
   have hl:k=fs.length:=HL.out
   subst hl;go_wp2_with fail;go_ret;refine⟨?_,HB.out.1⟩
   rw[HT.out,← b0 fs.length]
   rfl
def delHo (H:Ho) (F:R5):Ho:=
 if vB F.e F.i F.r F.d F.l.length=true∧passB H.fs F=true then
  (if (H.ff.length:Int)=H.c1 then
   (if H.c2=0 then pH H (evF 3 0 0 F)
    else match H.ff with
    | []=>H
    | f :: r=>pH (fHo (pH H (evF 3 0 0 f)) (r++[F])) (evF 2 0 0 F))
   else pH (fHo H (H.ff++[F])) (evF 2 0 0 F))
 else H
end Go.Proofs.YtkfcfigbgmbaiaaGreat
