import Derived.Test.YtkfcfigbgmbaiaaGreatK37
import Derived.Test.YtkfcfigbgmbaiaaGreatK31
namespace Go.Proofs.YtkfcfigbgmbaiaaGreat
open Go.RowKit
set_option linter.unusedVariables false
variable {C:Co} {H:Ho}
theorem valid_len {e:Bool} {i:Nat} {r:Bool} {d:Int} {n:Nat} (h:vB e i r d n=true):n≤8:=by
 unfold vB dl at h
 simp at h
 have h1:=h.2
 split at h1
 ·omega
 ·split at h1 <;> omega
theorem okBx.len {st:Int} {b:R8} (h:okBx st b):b.l.length≤8:=by
 unfold okBx at h
 split at h
 ·have:=h.2.2.2.2.2.2;omega
 ·exact valid_len h.2.2.2
theorem okHo.le (h:okHo H):H.le 1048576:=by
 have hc:=of_decide_eq_true h.cf
 have hb:=h.nb
 have hf:=h.nf
 have hq:=h.nq
 have hfs:H.fs.length≤16:=by
  have:=h.fs
  unfold okFs at this
  simp at this
  exact this.1
 refine⟨by omega,by omega,by omega,by omega,fun j hj=>?_,fun j hj=>?_,fun j hj=>?_⟩
 ·have:=(h.bx.1 j hj).len;omega
 ·have:=List.all_eq_true.1 h.ff _ (List.getElem_mem hj)
  unfold okFr at this
  have:=valid_len this
  omega
 ·have:=List.all_eq_true.1 h.qu _ (List.getElem_mem hj)
  unfold okEv at this
  rw[Bool.and_eq_true] at this
  have:=valid_len this.2
  omega
theorem stp_ho (C:Co) (b r:Int):(stpC C b r).ho=C.ho∨(stpC C b r).ho=(ovC C).ho∨(∃ k,(stpC C b r).ho=(fltC C k).ho)∨(stpC C b r).ho=takeHo C.ho r:=by
 have ha:∀ X n,X.ho=C.ho→(addC X C.tx n).ho=C.ho:=fun X n e=>by unfold addC;split <;> exact e
 unfold stpC
 split
 ·unfold idC;split <;> exact Or.inl rfl
 split
 ·unfold flC
  split
  ·rw[(wfX_te _ _).2.2,wfO_ho];exact Or.inl rfl
  split
  ·exact Or.inr (Or.inr (Or.inl ⟨1,rfl⟩))
  split <;> exact Or.inl rfl
 split
 ·unfold waC
  split
  ·exact Or.inl rfl
  split
  ·exact Or.inl (ha _ _ rfl)
  split
  ·exact Or.inl (ha { C with ct:=C.ct+1 } 8 rfl)
  ·exact Or.inl rfl
 split
 ·unfold dlC
  split
  ·split
   ·exact Or.inr (Or.inl rfl)
   ·exact Or.inr (Or.inr (Or.inl ⟨3,rfl⟩))
  ·split <;> exact Or.inl rfl
 split
 ·unfold gpC
  split
  ·split
   ·exact Or.inr (Or.inl rfl)
   ·rcases (jnC_p C r).2.1 with e|e
    ·exact Or.inr (Or.inr (Or.inr e))
    ·exact Or.inl e
  ·split
   ·exact Or.inl (lgC_p _).2.1
   ·exact Or.inl rfl
 split
 ·unfold suC;split
  ·exact Or.inl rfl
  split <;> exact Or.inl rfl
 split
 ·unfold ofC
  split
  ·split
   ·exact Or.inl rfl
   split
   ·split <;> exact Or.inl rfl
   ·exact Or.inl rfl
  ·exact Or.inl rfl
 ·exact Or.inl rfl
def gdE (H:Ho):Prop:=noS H∧0≤H.lo
theorem gdE.post (h:gdE H) {e:R8} (he:e.x≠10):gdE (pH H e):=by
 refine⟨h.1.post he,?_⟩
 have:=h.2
 show 0≤loP _ _ _
 unfold loP
 split
 ·exact this
 ·split <;> omega
theorem gdE.rel (h:gdE H) (sent:Bool):gdE (relHo H sent):=by
 unfold relHo
 split
 ·split
  ·exact gdE.post (H:=freeHo H _) h (by show ¬ (1:Int)=10;decide)
  ·split
   ·exact gdE.post (H:=freeHo H _) h (by show ¬ (6:Int)=10;decide)
   ·unfold stHo
    split <;> exact h
 ·exact h
theorem gdE.flt (h:gdE C.ho) (k:Int):gdE (fltC C k).ho:=by
 have e2:(fltC C k).ho=fltH C k:=by show (addC (fltM C k) C.tx _).ho=_;unfold addC;split <;> rfl
 rw[e2]
 exact (h.post (by show ¬ (8:Int)=10;decide)).rel false
theorem gdE.stp (h:gdE C.ho) (b r:Int):gdE (stpC C b r).ho:=by
 rcases stp_ho C b r with e|e|⟨k,e⟩|e
 ·rw[e];exact h
 ·rw[e];exact h.post (by show ¬ (9:Int)=10;decide)
 ·rw[e];exact h.flt k
 ·rw[e];exact h
theorem okCo.es (h:okCo C):esZ C.p C.te C.re=stZ C.te C.re:=by
 have:=h.m.of
 unfold esZ stZ
 by_cases e:C.p=7
 ·rw[if_pos e,if_pos (this.1 e)]
 ·rw[if_neg e,if_neg (fun x=>e (this.2 x))]
def evP (C T:Co):Prop:=(noS T.ho∧(T.ho.lo=0→esZ T.p T.te T.re=esZ C.p C.te C.re))∨∃ Q ev,(∀ e ∈ Q,R8.x e≠10)∧T.ho.qu=Q++[ev]∧ev.x=10∧ev.y=esZ T.p T.te T.re∧esZ T.p T.te T.re≠esZ C.p C.te C.re
theorem evP_act {A:Co} (hC:okCo C) (hA:gdE A.ho) (hT:okCo (actC C A)):evP C (actC C A):=by
 have e1:=hC.es
 have e2:=hT.es
 unfold actC at *
 obtain⟨X,hX⟩ : ∃ X,(if A.te=256∧A.p≠7 then offC A else A)=X:=⟨_,rfl⟩
 have hXA:X.ho=A.ho:=by rw[← hX];split <;> rfl
 rw[hX] at hT e2 ⊢
 have e3:(tellC X (stZ C.te C.re)).te=X.te∧(tellC X (stZ C.te C.re)).re=X.re:=by unfold tellC;split <;> exact⟨rfl,rfl⟩
 rw[e3.1,e3.2] at e2
 unfold evP
 rw[e1,e3.1,e3.2,e2]
 rcases tell_ev X (stZ C.te C.re) (by rw[hXA];exact hA.2) with⟨q1,q2⟩ | ⟨q1,q2,q3⟩ | ⟨q1,q2,q3⟩
 ·exact Or.inl ⟨by rw[q2,hXA];exact hA.1,fun _=>q1⟩
 ·exact Or.inr ⟨X.ho.qu,_,by rw[hXA];exact hA.1,q2,rfl,rfl,q1⟩
 ·refine Or.inl ⟨fun e he=>?_,fun e=>by omega⟩
  rw[q2,hXA] at he
  exact hA.1 e he
theorem evP_rst (h:gdE C.ho):evP C (rstC C):=Or.inl ⟨h.1.post (by show ¬ (11:Int)=10;decide),fun _=>rfl⟩
def dnC (C:Co):Co:={ C with ho:={ C.ho with qu:=[],lo:=0 } }
theorem dnC_ok (h:okCo C):okCo (dnC C):=h.host ⟨h.h.cf,h.h.fs,h.h.nb,h.h.nf,by have:=of_decide_eq_true h.h.cf;show (([]:List R8).length:Int)≤C.ho.c3;simp;omega,Int.le_refl _,by show (0:Int)≤100000;decide,h.h.s0,h.h.s1,h.h.ff,rfl,h.h.bx⟩ rfl
theorem dnC_gd (C:Co):gdE (dnC C).ho:=⟨fun e he=>absurd he (by simp[dnC]),Int.le_refl _⟩
end Go.Proofs.YtkfcfigbgmbaiaaGreat
