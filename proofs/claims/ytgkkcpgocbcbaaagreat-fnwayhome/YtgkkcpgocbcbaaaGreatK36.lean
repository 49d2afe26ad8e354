import Derived.Test.YtgkkcpgocbcbaaaGreatK07
import Derived.Test.YtgkkcpgocbcbaaaGreatK30
namespace Go.Proofs.YtgkkcpgocbcbaaaGreat
open Go.RowKit
set_option linter.unusedVariables false
structure okCo (C:Co):Prop where
 h:okHo C.ho
 m:okM C
 s:(C.p=1∧C.tx=true)↔wrP C.ho.bx
theorem phases {p:Int} (h0:¬ p<0) (h7:¬ 7<p):p=0∨p=1∨p=2∨p=3∨p=4∨p=5∨p=6∨p=7:=by omega
theorem isHo.two {w:World} {H:Ho} {s:Sl} (h:isHo w H s) (hok:okHo H):s.n2≤1000:=by
 have h1:=h.bx.len
 have h2:=hok.n2
 omega
theorem retB.to {o:Ending} {P Q:Prop} (h:retB o P) (e:P↔Q):retB o Q:=by
 obtain⟨b,h1,h2⟩:=h
 exact⟨b,h1,h2.trans e⟩
theorem idxG {p:Int} (h:0≤p∧p≤7):∃ n,∀ W,(Instr.index 104 (.agg prL.toArray) (.int .i64 p)).run Tryz.prog W = .ok (.agg #[.int .i64 (rLo p),.int .i64 (rHi p),.func (.func n) #[] #[]]) W:=by
 rcases phases (p:=p) (by omega) (by omega) with rfl|rfl|rfl|rfl|rfl|rfl|rfl|rfl
 ·exact⟨_,idx_0⟩
 ·exact⟨_,idx_1⟩
 ·exact⟨_,idx_2⟩
 ·exact⟨_,idx_3⟩
 ·exact⟨_,idx_4⟩
 ·exact⟨_,idx_5⟩
 ·exact⟨_,idx_6⟩
 ·exact⟨_,idx_7⟩
theorem vmB_ok (C:Co):vmB C=true↔(((((((((0≤C.lv∧C.lv≤1)∧(C.lv=1→C.p=2∧C.wk=true∧0<C.ct))∧(C.wk=true→C.p=2∧C.ov=false))∧(C.ov=true→C.p=2∨C.p=3∨C.p=4))∧(C.ow=true→C.wk=true∧C.tx=true))∧(C.tx=true→C.p≠7∧C.p≠0))∧(C.p=6→C.tx=true))∧(C.ak=true→C.p=7))):=by
 unfold vmB
 simp only[Bool.and_eq_true,Bool.not_eq_true']
 rw[j1,k5,k6,k7,j5,j6,j7]
set_option maxRecDepth 20000 in
theorem validCore_any (w:World) (C:Co) (s:Sl) (h:isHo w C.ho s) (hn:C.ho.le 1048576) :
  Calls Tryz.prog 36 #[.agg (coL C s).toArray] w fun o w'=>retB o (okCo C)∧Below w.heap.size w w':=by
 have hv:∀ W,Below w.heap.size w W→Calls Tryz.prog 44 #[.agg (hoL C.ho s).toArray] W fun o w'=>retB o (okHo C.ho)∧Below W.heap.size W w':=fun W hW=>validHost_any W C.ho s (h.below hW) hn
 have hz:okHo C.ho→∀ W,Below w.heap.size w W→Calls Tryz.prog 54 #[.agg (coL C s).toArray] W fun o w'=>retB o (wrP C.ho.bx)∧Below W.heap.size W w':=fun hok W hW=>isSending_any W C s (h.below hW).bx (h.two hok)
 by_cases hin:0≤C.p∧C.p≤7
 ·obtain⟨n,hix⟩:=idxG hin
  refine (validCore_gen w C s (okHo C.ho) _ _ (wrP C.ho.bx) hv (fun _ W _=>vcG W C s _ _ n hix) (fun _ W _=>vmG W C s) hz).mono ?_
  rintro o w' ⟨hr,hb⟩
  refine⟨hr.to ?_,hb⟩
  rw[vmB_ok]
  constructor
  ·rintro⟨_,hh,⟨t1,t2,t3,t4,t5,t6⟩,⟨⟨⟨⟨⟨⟨⟨v1,v2⟩,v3⟩,v4⟩,v5⟩,v6⟩,v7⟩,v8⟩,hs⟩
   refine⟨hh,⟨hin,t1,t2,t3,t4,v1,v2,v3,v4,v5,v6,v7,v8,by omega,fun ha=>?_⟩,hs⟩
   rcases t6 with⟨_,x⟩|⟨x,y⟩
   ·rw[ha] at x;cases x
   ·exact⟨x,fun e=>y.resolve_left (fun z=>z e)⟩
  ·intro x
   refine⟨hin,x.h,⟨x.m.te,x.m.re,x.m.of,x.m.ct,by have:=x.m.rn;omega,?_⟩,⟨⟨⟨⟨⟨⟨⟨x.m.lv,x.m.l1⟩,x.m.wk⟩,x.m.ov⟩,x.m.ow⟩,x.m.tx⟩,x.m.t6⟩,x.m.ak⟩,x.s⟩
   cases ha:C.ak
   ·refine Or.inr ⟨(x.m.na ha).1,?_⟩
    by_cases e:C.p=7
    ·exact Or.inr ((x.m.na ha).2 e)
    ·exact Or.inl e
   ·exact Or.inl ⟨x.m.ak ha,rfl⟩
 ·refine (validCore_gen w C s (okHo C.ho) True True (wrP C.ho.bx) hv (fun x=>absurd x hin) (fun x=>absurd x hin) hz).mono ?_
  rintro o w' ⟨hr,hb⟩
  exact⟨hr.to ⟨fun x=>absurd x.1 hin,fun x=>absurd x.m.p hin⟩,hb⟩
theorem vOkC (W:World) (C:Co) (s:Sl) (h:isHo W C.ho s) (hn:C.ho.le 1048576) (hok:okCo C):Calls Tryz.prog 36 #[.agg (coL C s).toArray] W fun o w'=>o = .returned (.bool true)∧Below W.heap.size W w':=(validCore_any W C s h hn).mono (by rintro o w' ⟨⟨b,rfl,hb⟩,h2⟩;rw[hb.2 hok];exact⟨rfl,h2⟩)
theorem vBadC (W:World) (C:Co) (s:Sl) (h:isHo W C.ho s) (hn:C.ho.le 1048576) (hok:¬ okCo C):Calls Tryz.prog 36 #[.agg (coL C s).toArray] W fun o w'=>o = .returned (.bool false)∧Below W.heap.size W w':=(validCore_any W C s h hn).mono (by rintro o w' ⟨⟨b,rfl,hb⟩,h2⟩;cases b;exact⟨rfl,h2⟩;exact absurd (hb.1 rfl) hok)
end Go.Proofs.YtgkkcpgocbcbaaaGreat
