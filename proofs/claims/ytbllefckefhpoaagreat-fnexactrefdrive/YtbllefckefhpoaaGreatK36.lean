import Derived.Test.YtbllefckefhpoaaGreatK35
import Derived.StillTailTactics
import Derived.Deep.RegionHeld3
namespace Go.Proofs.YtbllefckefhpoaaGreat
open Go.RowKit
set_option linter.unusedVariables false
def lhU (G:Lg) (B:Nat):Prop:=G.P<B∧G.mb<B∧G.gf<B∧G.gb<B∧G.gr<B∧G.gq<B
theorem lh.put {w0:World} {G:Lg} {H:Ho} {f1 f3:Nat} {hs:Nat→Hd} {nm:Nat} {D:DataW Unit} {W:World} (h:lh w0 G H f1 f3 hs nm D W) {B x:Nat} (hB:lhU G B) (hx:B≤x) (o:Nat) (l:List Value):lh w0 G H f1 f3 hs nm D (W.setCells x o l):=by
 obtain⟨b1,b2,b3,b4,b5,b6⟩:=hB
 have hlo:=h.d.lo
 have he:∀ q,q<B→(W.setCells x o l).heap[q]?=W.heap[q]?:=fun q hq=>setCells_other _ q (by omega) _ _ _
 have hb:Below w0.heap.size w0 (W.setCells x o l):=setCells_below (by omega) o l h.b
 have hz:(W.setCells x o l).heap.size=W.heap.size:=setCells_size ..
 refine⟨h.p.kept (he _ b1),h.f.same (he _ b3),h.x.at0 (he _ b4) hb,h.r.keep (he _ b5),h.rz.up (he _ b5),h.q.keep (he _ b6),h.qz.up (he _ b6),?_,hb,by rw[hz];exact h.hi,h.d,h.bd⟩
 obtain⟨es,clock,q1,q2⟩:=h.m
 exact⟨es,clock,(he _ b2).trans q1,q2⟩
theorem okBxs.wf {st:Int} {bx:List R8} (h:okBxs st bx):∀ j (hj:j<bx.length),(Lit.int .i64 bx[j].y).wf=true:=fun j hj=>by
 have:=h.1 j hj
 unfold okBx at this
 split at this
 ·rw[this.1]
  exact wf_small (by omega) (by omega)
 ·exact wf_small (by omega) (by omega)
set_option maxHeartbeats 16000000
open Go.Value renaming int→I,slice→sL,bool→bO,pointer→pT,agg→aG
open Go.IntKind renaming i64→J
open Go.Ending renaming returned→rT
open Go.Proofs.Tryz renaming prog→Tp
theorem goOff_any {w0:World} {M:Nat} {G:Lg} {C:Co} {f1 f3:Nat} {hs:Nat→Hd} {nm:Nat} {D:DataW Unit} {W:World} (h:mc w0 M G C f1 f3 hs nm D W):Calls Tp 195 #[pT (some ⟨M,0,none⟩)] W fun o w'=>o = rT (.tuple #[])∧mc w0 M G { C with te:=256 } f1 f3 hs nm D w':=by
 have H1:Hid (mc w0 M G { C with te:=256 } f1 f3 hs nm D (W.setCell ⟨M,1,none⟩ (I J 256))):=h.set 1 (I J 256) rfl rfl
 have y1:=h.m.cell 1 (I J C.te) rfl
 have f1:=h.m.free 1
 clear h;go_enter Tryz.func195,Tryz.ntmps195
 go_wp2_with fail;first | go_end0 | (try simp only[Exit.inBlock,Exit.then]);refine bodyPost_ret (results_none rfl _ _ _) rfl ?_
 exact⟨rfl,H1.out⟩
def addC (C:Co) (tx:Bool) (n:Int):Co:=if tx then { C with te:=if 256≤C.te+n then 256 else C.te+n } else { C with re:=min (C.re+n) 255 }
set_option maxRecDepth 20000 in
theorem add_any {w0:World} {M:Nat} {G:Lg} {C:Co} {f1 f3:Nat} {hs:Nat→Hd} {nm:Nat} {D:DataW Unit} {W:World} (h:mc w0 M G C f1 f3 hs nm D W) (tx:Bool) (n:Int) (hn:0≤n∧n≤8) (ht:0≤C.te∧C.te≤256) (hr:0≤C.re∧C.re≤255):Calls Tp 163 #[pT (some ⟨M,0,none⟩),bO tx,I J n] W fun o w'=>o = rT (.tuple #[])∧mc w0 M G (addC C tx n) f1 f3 hs nm D w':=by
 have y1:=h.m.cell 1 (I J C.te) rfl
 have y2:=h.m.cell 2 (I J C.re) rfl
 have g1:=h.m.free 1
 have g2:=h.m.free 2
 cases tx
 ·have HA:Hid (addC C false n = { C with re:=min (C.re+n) 255 }):=rfl
  have H1:Hid (mc w0 M G { C with re:=min (C.re+n) 255 } f1 f3 hs nm D (W.setCell ⟨M,2,none⟩ (I J (min (C.re+n) 255)))):=h.set 2 (I J (min (C.re+n) 255)) rfl rfl
  have hw:IntKind.i64.wrap (C.re+n)=C.re+n:=by rw[IntKind.wrap_i64];omega
  generalize C.re=re at *;clear h ht hr hn;go_enter Tryz.func163,Tryz.ntmps163
  go_wp2_with fail;first | go_end0 | (try simp only[Exit.inBlock,Exit.then]);refine bodyPost_ret (results_none rfl _ _ _) rfl ?_
  exact⟨rfl,by rw[HA.out];exact H1.out⟩
 ·have h1:mc w0 M G { C with te:=C.te+n } f1 f3 hs nm D (W.setCell ⟨M,1,none⟩ (I J (C.te+n))):=h.set 1 (I J (C.te+n)) rfl rfl
  have hw:IntKind.i64.wrap (C.te+n)=C.te+n:=by rw[IntKind.wrap_i64];omega
  by_cases hb:256≤C.te+n
  ·have HA:Hid (addC C true n = { C with te:=256 }):=by show addC C true n=_;unfold addC;rw[if_pos rfl,if_pos hb]
   have HG:Hid (Calls Tp 195 #[pT (some ⟨M,0,none⟩)] (W.setCell ⟨M,1,none⟩ (I J (C.te+n))) fun o w'=>o = rT (.tuple #[])∧mc w0 M G { C with te:=256 } f1 f3 hs nm D w'):=goOff_any (C:={ C with te:=C.te+n }) h1
   have db:decide (256≤C.te+n)=true:=by simpa using hb
   clear h ht hr hn h1;generalize C.te=te at *;go_enter Tryz.func163,Tryz.ntmps163
   go_wp2_with fail;refine HG.out.mono ?_
   rintro o w2 ⟨rfl,h2⟩;have H2:Hid (mc w0 M G { C with te:=256 } f1 f3 hs nm D w2):=h2
   clear h2;go_wp2_with fail;first | go_end0 | (try simp only[Exit.inBlock,Exit.then]);refine bodyPost_ret (results_none rfl _ _ _) rfl ?_
   exact⟨rfl,by rw[HA.out];exact H2.out⟩
  ·have HA:Hid (addC C true n = { C with te:=C.te+n }):=by show addC C true n=_;unfold addC;rw[if_pos rfl,if_neg hb]
   have H1:Hid (mc w0 M G { C with te:=C.te+n } f1 f3 hs nm D (W.setCell ⟨M,1,none⟩ (I J (C.te+n)))):=h1
   have db:decide (256≤C.te+n)=false:=by simpa using hb
   clear h ht hr hn h1;generalize C.te=te at *;go_enter Tryz.func163,Tryz.ntmps163
   go_wp2_with fail;first | go_end0 | (try simp only[Exit.inBlock,Exit.then]);refine bodyPost_ret (results_none rfl _ _ _) rfl ?_
   exact⟨rfl,by rw[HA.out];exact H1.out⟩
theorem mc.post2 {w0:World} {M:Nat} {G:Lg} {C:Co} {f1 f3:Nat} {hs:Nat→Hd} {nm:Nat} {D:DataW Unit} {W:World} (h:mc w0 M G C f1 f3 hs nm D W) (k a b:Int) :
  Calls Tp 190 #[pT (some ⟨G.P,0,none⟩),aG #[I J k,I J a,I J b,bO false,I .u32 0,bO false,I J 0,sL none 0 0]] W fun o w'=>o = rT (.tuple #[])∧mc w0 M G { C with ho:=postHo C.ho (ev3 k a b) } f1 f3 hs nm D w':=by
 refine (h.h.post (ev3 k a b) none 0 0 (none8 _) (Nat.zero_le _)).mono ?_
 rintro o w' ⟨rfl,h1,h2,h3⟩;exact⟨rfl,h.m.kept (h2 M h.o.1 h.o.2.2.2.2.2.1 h.m.lt),h1,h.o⟩
end Go.Proofs.YtbllefckefhpoaaGreat
