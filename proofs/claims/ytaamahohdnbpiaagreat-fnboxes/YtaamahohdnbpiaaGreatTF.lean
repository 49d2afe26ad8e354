import Derived.Test.YtaamahohdnbpiaaGreatG41
import Derived.Test.YtaamahohdnbpiaaGreatG27
import Derived.Test.YtaamahohdnbpiaaGreatG04
namespace Go.Proofs.YtaamahohdnbpiaaGreat
open Go.RowKit
set_option linter.unusedVariables false
theorem valid_len {e:Bool} {i:Nat} {r:Bool} {d:Int} {n:Nat} (h:validB e i r d n=true):n≤8:=by
 unfold validB dl at h
 simp at h
 have h1:=h.2
 split at h1
 ·omega
 ·split at h1 <;> omega
theorem okBx.len {st:Int} {b:R8} (h:okBx st b):b.l.length≤8:=by
 unfold okBx at h
 split at h
 ·have:=h.2.2.2.2.2.2;omega
 ·exact valid_len h.2.2.2
theorem okHo.le {H:Ho} (h:okHo H):H.le 1048576:=by
 have hc:=of_decide_eq_true h.cf
 have hb:=h.nb
 have hf:=h.nf
 have hq:=h.nq
 have hfs:H.fs.length≤16:=by
  have:=h.fs
  unfold okFs at this
  simp at this
  exact this.1
 refine⟨by omega,by omega,by omega,by omega,fun j hj=>?_,fun j hj=>?_,fun j hj=>?_⟩
 ·have:=(h.bx.1 j hj).len;omega
 ·have:=List.all_eq_true.1 h.ff _ (List.getElem_mem hj)
  unfold okFr at this
  have:=valid_len this
  omega
 ·have:=List.all_eq_true.1 h.qu _ (List.getElem_mem hj)
  unfold okEv at this
  rw[Bool.and_eq_true] at this
  have:=valid_len this.2
  omega
def hostQ (w:World) (T:Ho) (o:Ending) (w':World):Prop:=∃ s,o = .returned (.agg (hoL T s).toArray)∧St w.heap.size w' (fun V=>isHo V T s)∧slSome s∧Below w.heap.size w w'
theorem toldQ.host {w:World} {T:Ho} {o:Ending} {w':World} (h:toldQ w T o w') (hp:0<T.bx.length):hostQ w T o w':=by
 obtain⟨s,rfl,q1,q2,q3,q4,hb⟩:=h
 have hi:=q1.now
 refine⟨s.sl,rfl,q1,⟨⟨_,rfl⟩,?_⟩,hb⟩
 rcases q2.x with⟨_,e,_⟩|⟨g,e,_⟩
 ·have:s.n2=T.bx.length:=hi.bx.len
  omega
 ·exact⟨g,e⟩
theorem cSub (w:World) (H:Ho) (s:Sl) (t:Int) (F:R5) (fa:Option Addr) (fm fc:Nat) (hok:okHo H) (h:isHo w H s) (hs:slSome s) (hf:isBytes w fa fm fc F.l) (hfm:fm≤1048576) (hwt:(Lit.int .i64 t).wf=true) :
  Calls Tryz.prog 15 #[.agg (hoL H s).toArray,.int .i64 t,frV F.e F.i F.r F.d fa fm fc] w (hostQ w (subHo H t F)):=by
 refine (implSubmit_any w H s t F fa fm fc h hs hok.le hf hfm hwt).mono ?_
 rintro o w' (⟨_,h1⟩|⟨h1,_⟩)
 ·exact h1.host (hok.sub t F).pos
 ·exact absurd hok h1
theorem cTake (w:World) (H:Ho) (s:Sl) (i:Int) (hok:okHo H) (h:isHo w H s) (hs:slSome s) :
  Calls Tryz.prog 19 #[.agg (hoL H s).toArray,.int .i64 i] w (hostQ w (takeHo H i)):=by
 refine (implTake_any w H s i h hs hok.le).mono ?_
 rintro o w' (⟨_,h1⟩|⟨h1,_⟩)
 ·exact h1.host (hok.take i).pos
 ·exact absurd hok h1
theorem cRel (w:World) (H:Ho) (s:Sl) (sent:Bool) (hok:okHo H) (h:isHo w H s) (hs:slSome s) :
  Calls Tryz.prog 18 #[.agg (hoL H s).toArray,.bool sent] w (hostQ w (relHo H sent)):=by
 refine (implRelease_any w H s sent h hs hok.le).mono ?_
 rintro o w' (⟨_,h1⟩|⟨h1,_⟩)
 ·exact h1.host (hok.rel sent).pos
 ·exact absurd hok h1
theorem cBest (w:World) (H:Ho) (s:Sl) (hok:okHo H) (h:isHo w H s) (hs:slSome s) :
  Calls Tryz.prog 17 #[.agg (hoL H s).toArray] w fun o w'=>∃ r,o = .returned (.int .i64 r)∧bestR H.bx r∧Below w.heap.size w w':=by
 refine (implBest_any w H s h hs hok.le).mono ?_
 rintro o w' ⟨r,rfl,h1,h2⟩;rcases h1 with⟨_,h1⟩|⟨h1,_⟩
 ·exact⟨r,rfl,h1,h2⟩
 ·exact absurd hok h1
theorem cDrain (w:World) (H:Ho) (s:Sl) (hok:okHo H) (h:isHo w H s) (hs:slSome s) :
  Calls Tryz.prog 20 #[.agg (hoL H s).toArray] w fun o w'=>∃ s' a c,o = .returned (.tuple #[.agg (hoL (qHo H []) s').toArray,.slice a H.qu.length c])∧St w.heap.size w' (fun V=>isHo V (qHo H []) s')∧slSome s'∧(H.qu≠[]→H.qu.length≤c∧∃ g,a=some ⟨g,0,none⟩∧∀ j (hj:j<H.qu.length),∃ ao m k,at8 w' g (j*8) H.qu[j] ao m k)∧Below w.heap.size w w':=by
 refine (implDrain_any w H s h hs hok.le).mono ?_
 rintro o w' (⟨_,s4,a,c,he,C,rfl,hC,hC2,q1,q2,q3,q4,q5,hb⟩|⟨h1,_⟩)
 ·have hi:=q1.now
  refine⟨s4.sl,a,c,rfl,fun V hV=>q1 V (fun x h1 h2=>hV x (by omega) h2),⟨⟨_,rfl⟩,?_⟩,fun hne=>⟨q5.is.cap,?_⟩,hb⟩
  ·rcases q2.x with⟨_,e,_⟩|⟨g,e,_⟩
   ·have:s4.n2=H.bx.length:=hi.bx.len
    have:=hok.pos
    omega
   ·exact⟨g,e⟩
  ·obtain⟨g,off,e,hc⟩:=q5.is.cells hne
   rcases q5.sx with⟨e',_⟩|⟨g',e',_⟩
   ·rw[e'] at e;cases e
   ·rw[e'] at e
    cases e
    exact⟨g,e',fun j hj=>by have:=hc j hj;rw[Nat.zero_add] at this;exact this⟩
 ·exact absurd hok h1
theorem cNew (w:World) (m:Nat) (b c d:Int) (g:Nat) (h:okCf m b c d=true) :
  Calls Tryz.prog 14 #[cfV m b c d,.slice (some ⟨g,0,none⟩) 0 0] w fun o w'=>∃ s,o = .returned (.tuple #[.agg (hoL ⟨m,b,c,d,[],List.replicate m bx0,[],[],0,0⟩ s).toArray,.int .i64 0])∧St w.heap.size w' (fun V=>isHo V ⟨m,b,c,d,[],List.replicate m bx0,[],[],0,0⟩ s)∧slSome s∧Below w.heap.size w w':=by
 have hc:=of_decide_eq_true h
 refine (newHost_ok w m b c d g 0 0 [] h ⟨rfl,Nat.le_refl _,fun e=>absurd rfl e⟩ (Nat.zero_le _) (by omega) rfl).mono ?_
 rintro o w' ⟨g1,k1,g2,rfl,q,hb⟩;refine⟨_,by rw[hoV_L],fun V hV=>⟨q.s1 V (fun x h1 h2=>hV x (by omega) h2),⟨by simp,Nat.le_refl _,fun _=>⟨g2,0,rfl,fun j hj=>⟨none,0,0,?_⟩⟩⟩,⟨rfl,Nat.le_refl _,fun e=>absurd rfl e⟩,⟨rfl,Nat.le_refl _,fun e=>absurd rfl e⟩⟩,⟨⟨g1,rfl⟩,⟨g2,rfl⟩⟩,hb⟩
 rw[Nat.zero_add,List.getElem_replicate]
 exact (q.a2 j (by simpa using hj)).upN (hV g2 q.l2 q.u2)
end Go.Proofs.YtaamahohdnbpiaaGreat
