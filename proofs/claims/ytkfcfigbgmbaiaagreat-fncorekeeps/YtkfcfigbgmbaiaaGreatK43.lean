import Derived.Test.YtkfcfigbgmbaiaaGreatK40
import Derived.Test.YtkfcfigbgmbaiaaGreatK41
import Derived.Test.YtkfcfigbgmbaiaaGreatK42
import Derived.Test.YtkfcfigbgmbaiaaGreatK15
import Derived.Deep.DeepCutAuto
import Derived.Deep.CutBlock
namespace Go.Proofs.YtkfcfigbgmbaiaaGreat
set_option maxRecDepth 40000
open Go.RowKit
set_option linter.unusedVariables false
set_option maxHeartbeats 16000000
open Go.Value renaming int→I,slice→sL,bool→bO,pointer→pT,agg→aG
open Go.IntKind renaming i64→J
open Go.Ending renaming returned→rT
open Go.Proofs.Tryz renaming prog→Tp
section
variable {κ κ' κ0 : Nat → Nat} {H H' : Ho} {s s' s2 : Sl} {w0 w W W' : World} {b : Nat} {a : Option Addr} {n cap : Nat} {l : List Nat} {σ σ' τ : Sg} {L Z : List Value} {C C2 : Co} {ops : Array Oper} {rest : List Oper} {op : Oper} {ac : Act} {Q : Exit → Act → World → Prop} {x y : Operand}
theorem fS.spo {T:Nat} (h:fS T Z w0 w b a n cap l σ κ0 κ H s L W) (hg:hG κ' H' s' W') (hs:srcF w0 b a n cap l σ' W') (hm:mvS b κ W κ' W'):fS T Z w0 w b a n cap l σ' κ0 κ' H' s' L W':=by
 have hz:=h.m.s
 have hp:=h.p.lt
 have hr:=h.r.lt
 have hx:=h.x
 exact⟨hs,h.p.kept (hm.k _ hp hx.1 (by omega)),h.r.kept (hm.k _ hr hx.2.1 (by omega)),hg,⟨nT hz hm.s,fun x hx=>(hm.c x (by omega)).trans (h.m.c x hx),fun x h1 h2 h3=>(hm.k x (by omega) (by rw[h.m.c x h1];exact h2) h3).trans (h.m.k x h1 h2 h3),hm.o.1.trans h.m.o.1,hm.o.2.1.trans h.m.o.2.1,hm.o.2.2.trans h.m.o.2.2⟩,⟨(hm.c _ hp).trans hx.1,(hm.c _ hr).trans hx.2.1,hx.2.2⟩,fun x hx'=>(hm.c x (by omega)).trans (h.k x hx')⟩
theorem fS.ldH (h:fS 41 Z w0 w b a n cap l σ κ0 κ H s (coL C s2) W) (hK:wpList Tp ops Q rest (ac.put op.dst (aG (hoL C.ho s2).toArray)) W) (hgd:op.guard=none:=by rfl) (ho:op.op = .load 39 x:=by rfl) (hx:ac.eval x = pT (some ⟨w.heap.size,11,none⟩):=by rfl):wpList Tp ops Q (op :: rest) ac W:=
 wpList_load_mid (P:=Tp) hgd 39 x ho w.heap.size 11 hx (hoL C.ho s2) _ h.p.hostAt Tryz.underlying39 rfl (sz41L _ _) hK
theorem fS.svH (h:fS 41 Z w0 w b a n cap l σ κ0 κ H s (coL C s2) W) {H2:Ho} {s3:Sl} (hK:∀ W8,Hid (fS 41 Z w0 w b a n cap l σ κ0 κ H s (coL { C with ho:=H2 } s3) W8)→wpList Tp ops Q rest (ac.put op.dst undef) W8) (hgd:op.guard=none:=by rfl) (ho:op.op = .store 39 x y:=by rfl) (hx:ac.eval x = pT (some ⟨w.heap.size,11,none⟩):=by rfl) (hy:ac.eval y = aG (hoL H2 s3).toArray:=by rfl):wpList Tp ops Q (op :: rest) ac W:=
 wpList_store_mid (P:=Tp) hgd 39 x y ho w.heap.size 11 (hoL H2 s3).toArray hx hy (h.p.there 11 10 (nR _)) (sz41A _ _) (hoL_one _ _) (hK _ (h.put 11 _ _ (h.p.host H2 s3)))
theorem fS.ldC (h:fS 41 Z w0 w b a n cap l σ κ0 κ H s (coL C s2) W) (hK:wpList Tp ops Q rest (ac.put op.dst (aG (coL C s2).toArray)) W) (hgd:op.guard=none:=by rfl) (ho:op.op = .load 41 x:=by rfl) (hx:ac.eval x = pT (some ⟨w.heap.size,0,none⟩):=by rfl):wpList Tp ops Q (op :: rest) ac W:=
 wpList_load_mid (P:=Tp) hgd 41 x ho w.heap.size 0 hx (coL C s2) _ h.p.load Tryz.underlying41 rfl (szC41L _ _) hK
theorem fS.rtC (h:fS 41 Z w0 w b a n cap l σ κ0 κ H s L W) (hZ:Z.length=21) (hK:∀ W8,blk W8 (w.heap.size+1) (coL C2 s2) 41→Hid (hG κ H s W8∧srcF w0 b a n cap l σ W8∧mvS b κ0 w κ W8)→wpList Tp ops Q rest (ac.put op.dst undef) W8) (hgd:op.guard=none:=by rfl) (ho:op.op = .store 41 x y:=by rfl) (hx:ac.eval x = pT (some ⟨w.heap.size+1,0,none⟩):=by rfl) (hy:ac.eval y = aG (coL C2 s2).toArray:=by rfl):wpList Tp ops Q (op :: rest) ac W:=by
 have hb:blk (W.setCells (w.heap.size+1) 0 (coL C2 s2)) (w.heap.size+1) (coL C2 s2) 41:=by simpa using blk.put [] Z [] (coL C2 s2) (by simpa using h.r) hZ
 have q:=h.cells (w.heap.size+1) (Or.inr rfl) 0 (coL C2 s2) (h.p.other (by omega) _ _) hb
 exact wpList_store_mid (P:=Tp) hgd 41 x y ho (w.heap.size+1) 0 (coL C2 s2).toArray hx hy (h.r.there 0 21 (by omega)) (szC41A _ _) (cO _ _) (hK _ hb ⟨q.g,q.s,q.m⟩)
theorem hG.isSt {B:Nat} (h:hG κ H s W) (hk:∀ x,x<B→κ x=0):St B W (fun V=>isHo V H s):=fun V hV=>by
 have hB:∀ x,κ x≠0→B≤x:=fun x hx=>Nat.le_of_not_lt fun e=>hx (hk x e)
 obtain⟨gf,_,kf,_⟩:=h.f
 have h1:=h.sm gf (by omega)
 have h2:=hB gf (by omega)
 have h3:=hV (W.heap.size-1) (by omega) (by omega)
 have h4:W.heap.size-1<V.heap.size:=by
  have h5:W.heap[W.heap.size-1]?=some (W.heap[W.heap.size-1]'(by omega)):=Array.getElem?_eq_getElem (by omega)
  exact lt_of_some (h3.trans h5)
 exact (h.st (fun x hx=>hV x (hB x hx) (h.sm x hx)) (by omega)).is
end
def spoC (w0 w:World) (b:Nat) (a:Option Addr) (n cap:Nat) (l:List Nat) (κ:Nat→Nat) (C:Co) (τ:Sg) (o:Ending) (w':World):Prop:=∃ s κ',o = rT (aG (coL C s).toArray)∧hG κ' C.ho s w'∧srcF w0 b a n cap l τ w'∧mvS b κ w κ' w'
def spE (l:List Nat) (σ:Sg) (H H':Ho) (τ:Sg):Prop:=Hid (∀ (w0 w:World) (b:Nat) (a:Option Addr) (n cap:Nat) (κ:Nat→Nat) (s:Sl),srcF w0 b a n cap l σ w→hG κ H s w→(∀ x,x≤b→κ x=0)→Calls Tp 168 #[pT (some ⟨b,0,none⟩),aG (hoL H s).toArray] w (spO w0 w b a n cap l κ H' τ))
def skR (l:List Nat) (C:Co) (v:Nat) (σ:Sg) (C':Co) (τ:Sg):Prop:=
 (v=0∧∃ t:Nat,t<10∧dr 60 [I J 10] l σ (I J (t:Int)) τ∧C' = { C with p:=(t:Int)-1 }) ∨
 (v=1∧∃ t:Nat,t<18∧dr 60 [I J 18] l σ (I J (t:Int)) τ∧C' = { C with ct:=(t:Int)-1 }) ∨
 (v=2∧∃ t:Nat,t<3∧dr 60 [I J 3] l σ (I J (t:Int)) τ∧C' = { C with lv:=(t:Int) }) ∨
 (v=3∧C' = { C with wk:=!C.wk }∧τ=σ) ∨
 (v=4∧C' = { C with ov:=!C.ov }∧τ=σ) ∨
 (v=5∧C' = { C with ow:=!C.ow }∧τ=σ) ∨
 (v=6∧C' = { C with tx:=!C.tx }∧τ=σ) ∨
 (v=7∧C' = { C with ak:=!C.ak }∧τ=σ) ∨
 (v=8∧∃ t:Nat,t<130∧dr 60 [I J 130] l σ (I J (t:Int)) τ∧C' = { C with rn:=(t:Int) }) ∨
 (v=9∧∃ t:Nat,t<3∧dr 60 [I J 3] l σ (I J (t:Int)) τ∧C' = { C with te:=255+(t:Int) }) ∨
 (v=10∧∃ t:Nat,t<3∧dr 60 [I J 3] l σ (I J (t:Int)) τ∧C' = { C with re:=254+(t:Int) }) ∨
 (v=11∧∃ H':Ho,spE l σ C.ho H' τ∧C' = { C with ho:=H' })
theorem skR_ex (l:List Nat) (C:Co) (hb:bdH C.ho) (v:Nat) (hv:v<12) (σ:Sg) (hi:σ.1+500≤1000000000):∃ C' τ,skR l C v σ C' τ∧C'.ho.le 1048576∧τ.1≤σ.1+60:=by
 obtain rfl|rfl|rfl|rfl|rfl|rfl|rfl|rfl|rfl|rfl|rfl|rfl:v=0∨v=1∨v=2∨v=3∨v=4∨v=5∨v=6∨v=7∨v=8∨v=9∨v=10∨v=11:=by omega
 ·obtain⟨t,s2,p2,q2,D2⟩:=nE l σ 10 10 rfl (by decide) (by decide) (by omega)
  exact⟨_,_,Or.inl ⟨rfl,t,p2,D2,rfl⟩,hb.le,by omega⟩
 ·obtain⟨t,s2,p2,q2,D2⟩:=nE l σ 18 18 rfl (by decide) (by decide) (by omega)
  exact⟨_,_,Or.inr (Or.inl ⟨rfl,t,p2,D2,rfl⟩),hb.le,by omega⟩
 ·obtain⟨t,s2,p2,q2,D2⟩:=nE l σ 3 3 rfl (by decide) (by decide) (by omega)
  exact⟨_,_,Or.inr (Or.inr (Or.inl ⟨rfl,t,p2,D2,rfl⟩)),hb.le,by omega⟩
 ·exact⟨_,_,Or.inr (Or.inr (Or.inr (Or.inl ⟨rfl,rfl,rfl⟩))),hb.le,by omega⟩
 ·exact⟨_,_,Or.inr (Or.inr (Or.inr (Or.inr (Or.inl ⟨rfl,rfl,rfl⟩)))),hb.le,by omega⟩
 ·exact⟨_,_,Or.inr (Or.inr (Or.inr (Or.inr (Or.inr (Or.inl ⟨rfl,rfl,rfl⟩))))),hb.le,by omega⟩
 ·exact⟨_,_,Or.inr (Or.inr (Or.inr (Or.inr (Or.inr (Or.inr (Or.inl ⟨rfl,rfl,rfl⟩)))))),hb.le,by omega⟩
 ·exact⟨_,_,Or.inr (Or.inr (Or.inr (Or.inr (Or.inr (Or.inr (Or.inr (Or.inl ⟨rfl,rfl,rfl⟩))))))),hb.le,by omega⟩
 ·obtain⟨t,s2,p2,q2,D2⟩:=nE l σ 130 130 rfl (by decide) (by decide) (by omega)
  exact⟨_,_,Or.inr (Or.inr (Or.inr (Or.inr (Or.inr (Or.inr (Or.inr (Or.inr (Or.inl ⟨rfl,t,p2,D2,rfl⟩)))))))),hb.le,by omega⟩
 ·obtain⟨t,s2,p2,q2,D2⟩:=nE l σ 3 3 rfl (by decide) (by decide) (by omega)
  exact⟨_,_,Or.inr (Or.inr (Or.inr (Or.inr (Or.inr (Or.inr (Or.inr (Or.inr (Or.inr (Or.inl ⟨rfl,t,p2,D2,rfl⟩))))))))),hb.le,by omega⟩
 ·obtain⟨t,s2,p2,q2,D2⟩:=nE l σ 3 3 rfl (by decide) (by decide) (by omega)
  exact⟨_,_,Or.inr (Or.inr (Or.inr (Or.inr (Or.inr (Or.inr (Or.inr (Or.inr (Or.inr (Or.inr (Or.inl ⟨rfl,t,p2,D2,rfl⟩)))))))))),hb.le,by omega⟩
 ·obtain⟨H',s2,hle,q2,D2⟩:=spoil_f l σ C.ho hb (by omega)
  exact⟨_,_,Or.inr (Or.inr (Or.inr (Or.inr (Or.inr (Or.inr (Or.inr (Or.inr (Or.inr (Or.inr (Or.inr (⟨rfl,H',D2,rfl⟩))))))))))),hle,by omega⟩
theorem spoilC_f (l:List Nat) (σ:Sg) (C:Co) (hb:bdH C.ho) (hi:σ.1+600≤1000000000):∃ (C':Co) (τ:Sg),C'.ho.le 1048576∧τ.1≤σ.1+70∧Hid (∀ (w0 w:World) (b:Nat) (a:Option Addr) (n cap:Nat) (κ:Nat→Nat) (s:Sl),srcF w0 b a n cap l σ w→hG κ C.ho s w→(∀ x,x≤b→κ x=0)→Calls Tp 121 #[pT (some ⟨b,0,none⟩),aG (coL C s).toArray] w (spoC w0 w b a n cap l κ C' τ)):=by
 obtain⟨v,s1,hv,q1,D1⟩:=nE l σ 12 12 rfl (by decide) (by decide) (by omega)
 obtain⟨C',τ,hR,hle,hτ⟩:=skR_ex l C hb v hv s1 (by omega)
 refine⟨C',τ,hle,by omega,fun w0 w b a n cap κ s hs hg hz=>?_⟩
 have F0:Hid _:=fS.new hs hg hz Z21 (coL C s) 41
 clear hs hg hz hb hle hτ q1 hv;go_enter Tryz.func121,Tryz.ntmps121
 go_wp2_with fail;refine (fS.call D1 F0.out).mono ?_
 rintro o w1 ⟨rfl,F1⟩;clear F0 D1;rcases hR with⟨rfl,t,ht,D2,rfl⟩|⟨rfl,t,ht,D2,rfl⟩|⟨rfl,t,ht,D2,rfl⟩|⟨rfl,rfl,rfl⟩|⟨rfl,rfl,rfl⟩|⟨rfl,rfl,rfl⟩|⟨rfl,rfl,rfl⟩|⟨rfl,rfl,rfl⟩|⟨rfl,t,ht,D2,rfl⟩|⟨rfl,t,ht,D2,rfl⟩|⟨rfl,t,ht,D2,rfl⟩|⟨rfl,H',D2,rfl⟩
 ·have hw:IntKind.i64.wrap ((t:Int)-1)=(t:Int)-1:=by rw[IntKind.wrap_i64];omega
  go_wp2_with fail;refine (fS.call D2 F1.out).mono ?_
  rintro o w2 ⟨rfl,F2⟩;have y:=F2.out.p.cell 0 _ rfl
  have f:=F2.out.p.free 0
  have F3:Hid (fS 41 Z21 w0 w b a n cap l _ κ κ C.ho s (coL { C with p:=(t:Int)-1 } s) (w2.setCell ⟨w.heap.size,0,none⟩ (I J ((t:Int)-1)))):=F2.out.set 0 _
  go_wp2_with (first | (refine fS.ldC F3.out ?_) | (refine fS.rtC F3.out rfl ?_;intro w8 b8 G8))
  exact bC Tryz.results121 (lv41 b8) ⟨_,_,rfl,G8.out⟩
 ·have hw:IntKind.i64.wrap ((t:Int)-1)=(t:Int)-1:=by rw[IntKind.wrap_i64];omega
  go_wp2_with fail;refine (fS.call D2 F1.out).mono ?_
  rintro o w2 ⟨rfl,F2⟩;have y:=F2.out.p.cell 1 _ rfl
  have f:=F2.out.p.free 1
  have F3:Hid (fS 41 Z21 w0 w b a n cap l _ κ κ C.ho s (coL { C with ct:=(t:Int)-1 } s) (w2.setCell ⟨w.heap.size,1,none⟩ (I J ((t:Int)-1)))):=F2.out.set 1 _
  go_wp2_with (first | (refine fS.ldC F3.out ?_) | (refine fS.rtC F3.out rfl ?_;intro w8 b8 G8))
  exact bC Tryz.results121 (lv41 b8) ⟨_,_,rfl,G8.out⟩
 ·go_wp2_with fail;refine (fS.call D2 F1.out).mono ?_
  rintro o w2 ⟨rfl,F2⟩;have y:=F2.out.p.cell 2 _ rfl
  have f:=F2.out.p.free 2
  have F3:Hid (fS 41 Z21 w0 w b a n cap l _ κ κ C.ho s (coL { C with lv:=(t:Int) } s) (w2.setCell ⟨w.heap.size,2,none⟩ (I J ((t:Int))))):=F2.out.set 2 _
  go_wp2_with (first | (refine fS.ldC F3.out ?_) | (refine fS.rtC F3.out rfl ?_;intro w8 b8 G8))
  exact bC Tryz.results121 (lv41 b8) ⟨_,_,rfl,G8.out⟩
 ·have y:=F1.out.p.cell 3 _ rfl
  have f:=F1.out.p.free 3
  have F3:Hid (fS 41 Z21 w0 w b a n cap l _ κ κ C.ho s (coL { C with wk:=!C.wk } s) (w1.setCell ⟨w.heap.size,3,none⟩ (bO (!C.wk)))):=F1.out.set 3 _
  go_wp2_with (first | (refine fS.ldC F3.out ?_) | (refine fS.rtC F3.out rfl ?_;intro w8 b8 G8))
  exact bC Tryz.results121 (lv41 b8) ⟨_,_,rfl,G8.out⟩
 ·have y:=F1.out.p.cell 4 _ rfl
  have f:=F1.out.p.free 4
  have F3:Hid (fS 41 Z21 w0 w b a n cap l _ κ κ C.ho s (coL { C with ov:=!C.ov } s) (w1.setCell ⟨w.heap.size,4,none⟩ (bO (!C.ov)))):=F1.out.set 4 _
  go_wp2_with (first | (refine fS.ldC F3.out ?_) | (refine fS.rtC F3.out rfl ?_;intro w8 b8 G8))
  exact bC Tryz.results121 (lv41 b8) ⟨_,_,rfl,G8.out⟩
 ·have y:=F1.out.p.cell 5 _ rfl
  have f:=F1.out.p.free 5
  have F3:Hid (fS 41 Z21 w0 w b a n cap l _ κ κ C.ho s (coL { C with ow:=!C.ow } s) (w1.setCell ⟨w.heap.size,5,none⟩ (bO (!C.ow)))):=F1.out.set 5 _
  go_wp2_with (first | (refine fS.ldC F3.out ?_) | (refine fS.rtC F3.out rfl ?_;intro w8 b8 G8))
  exact bC Tryz.results121 (lv41 b8) ⟨_,_,rfl,G8.out⟩
 ·have y:=F1.out.p.cell 6 _ rfl
  have f:=F1.out.p.free 6
  have F3:Hid (fS 41 Z21 w0 w b a n cap l _ κ κ C.ho s (coL { C with tx:=!C.tx } s) (w1.setCell ⟨w.heap.size,6,none⟩ (bO (!C.tx)))):=F1.out.set 6 _
  go_wp2_with (first | (refine fS.ldC F3.out ?_) | (refine fS.rtC F3.out rfl ?_;intro w8 b8 G8))
  exact bC Tryz.results121 (lv41 b8) ⟨_,_,rfl,G8.out⟩
 ·have y:=F1.out.p.cell 7 _ rfl
  have f:=F1.out.p.free 7
  have F3:Hid (fS 41 Z21 w0 w b a n cap l _ κ κ C.ho s (coL { C with ak:=!C.ak } s) (w1.setCell ⟨w.heap.size,7,none⟩ (bO (!C.ak)))):=F1.out.set 7 _
  go_wp2_with (first | (refine fS.ldC F3.out ?_) | (refine fS.rtC F3.out rfl ?_;intro w8 b8 G8))
  exact bC Tryz.results121 (lv41 b8) ⟨_,_,rfl,G8.out⟩
 ·go_wp2_with fail;refine (fS.call D2 F1.out).mono ?_
  rintro o w2 ⟨rfl,F2⟩;have y:=F2.out.p.cell 8 _ rfl
  have f:=F2.out.p.free 8
  have F3:Hid (fS 41 Z21 w0 w b a n cap l _ κ κ C.ho s (coL { C with rn:=(t:Int) } s) (w2.setCell ⟨w.heap.size,8,none⟩ (I J ((t:Int))))):=F2.out.set 8 _
  go_wp2_with (first | (refine fS.ldC F3.out ?_) | (refine fS.rtC F3.out rfl ?_;intro w8 b8 G8))
  exact bC Tryz.results121 (lv41 b8) ⟨_,_,rfl,G8.out⟩
 ·have hw:IntKind.i64.wrap (255+(t:Int))=255+(t:Int):=by rw[IntKind.wrap_i64];omega
  go_wp2_with fail;refine (fS.call D2 F1.out).mono ?_
  rintro o w2 ⟨rfl,F2⟩;have y:=F2.out.p.cell 9 _ rfl
  have f:=F2.out.p.free 9
  have F3:Hid (fS 41 Z21 w0 w b a n cap l _ κ κ C.ho s (coL { C with te:=255+(t:Int) } s) (w2.setCell ⟨w.heap.size,9,none⟩ (I J (255+(t:Int))))):=F2.out.set 9 _
  go_wp2_with (first | (refine fS.ldC F3.out ?_) | (refine fS.rtC F3.out rfl ?_;intro w8 b8 G8))
  exact bC Tryz.results121 (lv41 b8) ⟨_,_,rfl,G8.out⟩
 ·have hw:IntKind.i64.wrap (254+(t:Int))=254+(t:Int):=by rw[IntKind.wrap_i64];omega
  go_wp2_with fail;refine (fS.call D2 F1.out).mono ?_
  rintro o w2 ⟨rfl,F2⟩;have y:=F2.out.p.cell 10 _ rfl
  have f:=F2.out.p.free 10
  have F3:Hid (fS 41 Z21 w0 w b a n cap l _ κ κ C.ho s (coL { C with re:=254+(t:Int) } s) (w2.setCell ⟨w.heap.size,10,none⟩ (I J (254+(t:Int))))):=F2.out.set 10 _
  go_wp2_with (first | (refine fS.ldC F3.out ?_) | (refine fS.rtC F3.out rfl ?_;intro w8 b8 G8))
  exact bC Tryz.results121 (lv41 b8) ⟨_,_,rfl,G8.out⟩
 ·go_wp2_with (refine fS.ldH F1.out ?_)
  refine (D2.out _ _ _ _ _ _ _ _ F1.out.s F1.out.g F1.out.k).mono ?_
  rintro o w2 ⟨s2,κ2,rfl,q1,q2,q3⟩;have F2:=hidG (F1.out.spo q1 q2 q3)
  clear q1 q2 q3 F1;go_upto_region 26 with (refine fS.svH F2.out ?_;intro w3 F3)
  go_wp2_with (first | (refine fS.ldC F3.out ?_) | (refine fS.rtC F3.out rfl ?_;intro w8 b8 G8))
  exact bC Tryz.results121 (lv41 b8) ⟨_,_,rfl,G8.out⟩
theorem hV.spo {w0 w W W':World} {b:Nat} {a:Option Addr} {n cap:Nat} {l:List Nat} {σ σ':Sg} {T P:Nat} {Z L:List Value} {κ κ':Nat→Nat} {H H':Ho} {s s':Sl} (h:hV T Z w0 w b a n cap l σ P κ H s L W) (hg:hG κ' H' s' W') (hs:srcF w0 b a n cap l σ' W') (hm:mvS b κ W κ' W'):hV T Z w0 w b a n cap l σ' P κ' H' s' L W':=by
 have hz:=h.z.lt
 have hp:=h.p.lt
 have hx:=h.x
 exact⟨hs,⟨nT h.o.s hm.s,fun x h1 h2=>(hm.k x (by omega) (h.k x (by omega)) h1).trans (h.o.k x h1 h2),hm.o.1.trans h.o.o.1,hm.o.2.1.trans h.o.o.2.1,hm.o.2.2.trans h.o.o.2.2⟩,h.z.kept (hm.k _ hz (h.k _ (nR _)) (by omega)),h.p.kept (hm.k _ hp hx.2.2 (by omega)),hg,⟨hx.1,hx.2.1,(hm.c _ hp).trans hx.2.2⟩,fun x hx'=>(hm.c x (by omega)).trans (h.k x hx')⟩
theorem genC_f:anyC:=by
 intro l σ ph hσ hp hl;obtain⟨C,s1,hb,q1,D1⟩:=genIn_f l σ ph hp hl (by omega)
 obtain⟨v,s2,hv,q2,D2⟩:=nE l s1 6 6 rfl (by decide) (by decide) (by omega)
 obtain⟨C3,s3,hle,q3,D3⟩:=spoilC_f l s2 C hb (by omega)
 obtain⟨C',hC⟩ : ∃ C':Co,C'=if v=0 then C3 else C:=⟨_,rfl⟩
 obtain⟨τ,hτ⟩ : ∃ τ:Sg,τ=if v=0 then s3 else s2:=⟨_,rfl⟩
 have HE:Hid (C'=(if v=0 then C3 else C)∧τ=if v=0 then s3 else s2):=⟨hC,hτ⟩
 refine⟨C',τ,by rw[hC];split;exact hle;exact hb.le,fun w0 w b a n cap h=>?_⟩
 have HR:Hid (srcF w0 b a n cap l σ w):=h
 clear h hC hτ q1 q2 q3 hle hb hp hσ hv;go_enter Tryz.func61,Tryz.ntmps61
 go_wp2_with fail;refine (D1.out _ _ _ _ _ _ (HR.out.below ((bW _ _).alloc (nR _) _))).mono ?_
 rintro o w1 ⟨s,κ,rfl,hg,hk,h1,k1⟩;have V0:Hid (hV 41 Z21 w0 w b a n cap l s1 w1.heap.size κ C.ho s Z21 (w1.alloc (.cells Z21.toArray 41))):=hV.new HR.out h1 k1 hg (fun x hx=>hk x (by simp;omega)) Z21
 clear hg hk h1 k1 D1;go_upto_region 2 with (refine hV.svC (C2:=C) (s2:=s) V0.out rfl ?_;intro w2 V2)
 clear V0;generalize w1.heap.size=P at *;go_wp2_with fail;refine (hV.call D2 V2.out).mono ?_
 rintro o w3 ⟨rfl,V3⟩;clear V2 D2;go_upto_if 11 with fail
 go_cut [] (fun wx=>∃ s3 κ3,Hid (hV 41 Z21 w0 w b a n cap l τ P κ3 C'.ho s3 (coL C' s3) wx))
 case first=>
  obtain⟨h1,h2⟩:=HE.out
  by_cases e:v=0
  ·rw[if_pos e] at h1 h2
   subst h1 h2 e;go_wp2_with (refine hV.ldC V3.out ?_)
   refine (D3.out _ _ _ _ _ _ _ _ V3.out.s V3.out.g (fun x hx=>V3.out.k x (by have:=V3.out.x;omega))).mono ?_
   rintro o w4 ⟨s4,κ4,rfl,q1,q2,q3⟩;have V4:=hidG (V3.out.spo q1 q2 q3)
   clear q1 q2 q3 V3;go_wp2_with (refine hV.svC V4.out rfl ?_;intro w5 V5)
   go_meet
   case rel=>exact⟨s4,κ4,V5⟩
  ·rw[if_neg e] at h1 h2
   subst h1 h2;have e1:((v:Int) == 0)=false:=by simp;omega
   go_wp2_with fail;go_meet
   case rel=>exact⟨s,κ,V3⟩
 case rest=>
 obtain⟨s4,κ4,V4⟩:=hcut
 clear V3 D3;go_wp2_with (first | (refine hV.ldC V4.out ?_) | (refine hV.rtC V4.out rfl ?_;intro w8 b8 G8))
 exact bC Tryz.results61 (lv41 b8) ⟨s4,rfl,G8.out.1.isSt (fun x hx=>V4.out.k x (by omega)),G8.out.1.slSome,G8.out.2⟩
def coQ (w:World) (T:Co) (o:Ending) (w':World):Prop:=∃ s,o = rT (aG (coL T s).toArray)∧Hid (St w.heap.size w' (fun V=>isHo V T.ho s)∧slSome s∧Below w.heap.size w w')
def coN (w:World) (T:Co) (o:Ending) (w':World):Prop:=∃ s,o = rT (aG (coL T s).toArray)∧Hid (St w.heap.size w' (fun V=>isHo V T.ho s)∧Below w.heap.size w w')
variable {w w' W W' : World} {C T : Co} {s s' : Sl} {o : Ending}
theorem okHo.one {H:Ho} (h:okHo H):0<H.bx.length∧1≤H.c0:=by
 have h1:=of_decide_eq_true h.cf
 have h2:=h.nb
 omega
theorem wh_some {B X:Nat} {s:Wh} {H:Ho} (hx:whS B X W s) (hi:isHo W H s.sl) (hp:0<H.bx.length):slSome s.sl:=by
 refine⟨⟨_,rfl⟩,?_⟩
 rcases hx.x with⟨_,e,_⟩|⟨g,e,_⟩
 ·have:s.n2=H.bx.length:=hi.bx.len
  omega
 ·exact⟨g,e⟩
theorem toldC.co (h:toldC w T o w') (hT:okCo T):coQ w T o w':=by
 obtain⟨s,rfl,q1,q2,q3,q4,hb⟩:=h
 exact⟨s.sl,rfl,q1,wh_some q2 q1.now hT.h.one.1,hb⟩
theorem cRst (hC:okCo C) (h:isHo w C.ho s) (hs:slSome s):Calls Tp 11 #[aG (coL C s).toArray] w (coQ w (rstC C)):=by
 refine (implRestart_any w C s h hs hC.h.le).mono ?_
 rintro o w' (⟨_,h1⟩|⟨h1,_⟩)
 ·exact h1.co hC.rst
 ·exact absurd hC h1
theorem cFlt {k:Int} (hC:okFa C k) (h:isHo w C.ho s) (hs:slSome s):Calls Tp 16 #[aG (coL C s).toArray,I J k] w (coQ w (actC C (fltC C k))):=by
 refine (implFault_any w C s k h hs hC.1.h.le).mono ?_
 rintro o w' (⟨_,h1⟩|⟨h1,_⟩)
 ·exact h1.co (fltC_ok hC)
 ·exact absurd hC h1
theorem cStp {k r:Int} (hC:okCs C k) (hr:bestR C.ho.bx r) (h:isHo w C.ho s) (hs:slSome s):Calls Tp 24 #[aG (coL C s).toArray,I J k] w (coQ w (actC C (stpC C k r))):=by
 refine (implCoreStep_any w C s k r hr h hs hC.1.h.le).mono ?_
 rintro o w' (⟨_,h1⟩|⟨h1,_⟩)
 ·exact h1.co (stpC_ok hC r hr)
 ·exact absurd hC h1
theorem mRst (hC:okCo C) (h:isHo w C.ho s):Calls Tp 9 #[aG (coL C s).toArray] w (coN w (rstC C)):=by
 refine (specRestart_any w C s _ (Or.inl ⟨hC,rfl⟩) h hC.h.le).mono ?_
 rintro o w' ⟨s',rfl,h1,h2⟩;exact⟨s',rfl,h1,h2⟩
theorem mFlt {k:Int} (hC:okFa C k) (h:isHo w C.ho s):Calls Tp 15 #[aG (coL C s).toArray,I J k] w (coN w (actC C (fltC C k))):=by
 refine (specFault_any w C s k _ (Or.inl ⟨hC,rfl⟩) h hC.1.h.le).mono ?_
 rintro o w' ⟨s',rfl,h1,h2⟩;exact⟨s',rfl,h1,h2⟩
theorem mStp {k r:Int} (hC:okCs C k) (hr:bestR C.ho.bx r) (h:isHo w C.ho s):Calls Tp 23 #[aG (coL C s).toArray,I J k] w (coN w (actC C (stpC C k r))):=by
 refine (specCoreStep_any w C s k r _ hr (Or.inl ⟨hC,rfl⟩) h hC.1.h.le).mono ?_
 rintro o w' ⟨s',rfl,h1,h2⟩;exact⟨s',rfl,h1,h2⟩
theorem cDr {H:Ho} (hH:okHo H) (h:isHo w H s) (hs:slSome s):Calls Tp 28 #[aG (hoL H s).toArray] w fun o w'=>∃ s a c,o = rT (.tuple #[aG (hoL (qHo H []) s).toArray,sL a H.qu.length c])∧Hid (St w.heap.size w' (fun V=>isHo V (qHo H []) s)∧slSome s∧isR8s w' a H.qu.length c H.qu∧Below w.heap.size w w'):=by
 refine (implDrain_any w H s h hs hH.le).mono ?_
 rintro o w' (⟨_,s,a,c,he,X,rfl,q1,q2,q3,q4,q5,q6,q7,q8⟩|⟨h1,_⟩)
 ·exact⟨s.sl,a,c,rfl,q3.mono q1,wh_some q4 q3.now hH.one.1,q7.is,q8⟩
 ·exact absurd hH h1
theorem mDr {H:Ho} (hH:okHo H) (h:isHo w H s):Calls Tp 29 #[aG (hoL H s).toArray] w fun o w'=>∃ s a c,o = rT (.tuple #[aG (hoL (qHo H []) s).toArray,sL a H.qu.length c])∧Hid (St w.heap.size w' (fun V=>isHo V (qHo H []) s)∧Below w.heap.size w w'):=by
 refine (specDrain_st w H s (qHo H []) H.qu (Or.inl ⟨hH,rfl,rfl⟩) h hH.le).mono ?_
 rintro o w' ⟨s2,a,c,rfl,h1,h2,h3⟩;exact⟨s2,a,c,rfl,h1,h3⟩
theorem implES_any (w:World) (C:Co) (s:Sl):Calls Tp 31 #[aG (coL C s).toArray] w fun o w'=>o = rT (I J (esZ C.p C.te C.re))∧Below w.heap.size w w':=by
 have H0:blk (w.alloc (.cells (coL C s).toArray 41)) w.heap.size (coL C s) 41:=blk.new w _ 41
 have y0:=H0.cell 0 _ rfl
 have y9:=H0.cell 9 _ rfl
 have y10:=H0.cell 10 _ rfl
 obtain⟨b,hb⟩ : ∃ b,(C.p == 7)=b:=⟨_,rfl⟩
 have HB:Hid (b=decide (C.p=7)):=by show _=_;rw[← hb];rfl
 have HS:Hid (Below w.heap.size w (w.alloc (.cells (coL C s).toArray 41))):=(bW _ _).alloc (nR _) _
 clear H0;go_enter Tryz.func31,Tryz.ntmps31
 go_upto_region 1 with fail
 generalize World.alloc w _=v at *;go_wp2_with (go_at_call 70;refine (stateOf_any _ C.p C.te C.re b HB.out).mono ?_;rintro o w1 ⟨rfl,rfl⟩)
 go_ret;exact⟨rfl,HS.out⟩
structure kS (w:World) (p q:Nat) (C1:Co) (s1:Sl) (C2:Co) (s2:Sl) (W:World):Prop where
 c:blk W p (coL C1 s1) 41
 m:blk W q (coL C2 s2) 41
 hc:∀ V:World,(∀ x,x≠p→x≠q→x<W.heap.size→V.heap[x]?=W.heap[x]?)→isHo V C1.ho s1
 hm:∀ V:World,(∀ x,x≠p→x≠q→x<W.heap.size→V.heap[x]?=W.heap[x]?)→isHo V C2.ho s2
 s:slSome s1
 b:Below w.heap.size w W
 x:w.heap.size≤p∧w.heap.size≤q∧p≠q
variable {p q : Nat} {C1 C2 : Co} {s1 s2 : Sl}
theorem kS.ic (h:kS w p q C1 s1 C2 s2 W):isHo W C1.ho s1:=h.hc W fun _ _ _ _=>rfl
theorem kS.im (h:kS w p q C1 s1 C2 s2 W):isHo W C2.ho s2:=h.hm W fun _ _ _ _=>rfl
theorem kS.below (h:kS w p q C1 s1 C2 s2 W) (hb:Below W.heap.size W W'):kS w p q C1 s1 C2 s2 W':=
 ⟨h.c.below hb,h.m.below hb,fun V hV=>h.hc V fun x h1 h2 h3=>(hV x h1 h2 (nL h3 hb.size)).trans (hb.block x h3),fun V hV=>h.hm V fun x h1 h2 h3=>(hV x h1 h2 (nL h3 hb.size)).trans (hb.block x h3),h.s,h.b.trans (hb.mono h.b.size),h.x⟩
theorem kS.newC (h:kS w p q C1 s1 C2 s2 W) (hb:Below W.heap.size W W') (hS:St W.heap.size W' (fun V=>isHo V T.ho s)) (hs:slSome s) (o:Nat) (vs:List Value) (hL:blk (W'.setCells p o vs) p (coL T s) 41):kS w p q T s C2 s2 (W'.setCells p o vs):=by
 have h':=h.below hb
 have he:∀ x,x≠p→(W'.setCells p o vs).heap[x]?=W'.heap[x]?:=fun x hx=>sO _ x hx _ _ _
 have hz:(W'.setCells p o vs).heap.size=W'.heap.size:=sZ ..
 have hp:=h.c.lt
 have hq:=h.m.lt
 exact⟨hL,h'.m.other (Ne.symm h.x.2.2) _ _,fun V hV=>hS V fun x h1 h2=>(hV x (by omega) (by omega) (by omega)).trans (he x (by omega)),fun V hV=>h'.hm V fun x h1 h2 h3=>(hV x h1 h2 (by omega)).trans (he x h1),hs,sW h.x.1 _ _ h'.b,h.x⟩
theorem kS.newM (h:kS w p q C1 s1 C2 s2 W) (hb:Below W.heap.size W W') (hS:St W.heap.size W' (fun V=>isHo V T.ho s)) (o:Nat) (vs:List Value) (hL:blk (W'.setCells q o vs) q (coL T s) 41):kS w p q C1 s1 T s (W'.setCells q o vs):=by
 have h':=h.below hb
 have he:∀ x,x≠q→(W'.setCells q o vs).heap[x]?=W'.heap[x]?:=fun x hx=>sO _ x hx _ _ _
 have hz:(W'.setCells q o vs).heap.size=W'.heap.size:=sZ ..
 have hp:=h.c.lt
 have hq:=h.m.lt
 exact⟨h'.c.other h.x.2.2 _ _,hL,fun V hV=>h'.hc V fun x h1 h2 h3=>(hV x h1 h2 (by omega)).trans (he x h2),fun V hV=>hS V fun x h1 h2=>(hV x (by omega) (by omega) (by omega)).trans (he x (by omega)),h.s,sW h.x.2.1 _ _ h'.b,h.x⟩
theorem kS.lost (h:kS w p q C1 s1 C2 s2 W):kS w p q { C1 with ho:={ C1.ho with lo:=0 } } s1 C2 s2 (W.setCell ⟨p,19,none⟩ (I J 0)):=by
 have he:∀ x,x≠p→(W.setCell ⟨p,19,none⟩ (I J 0)).heap[x]?=W.heap[x]?:=fun x hx=>sO p x hx [_] _ _
 have hz:(W.setCell ⟨p,19,none⟩ (I J 0)).heap.size=W.heap.size:=by simp
 exact⟨h.c.set 19 _,h.m.setOther (Ne.symm h.x.2.2) _ _,fun V hV=>by have:=h.hc V fun x h1 h2 h3=>(hV x h1 h2 (by omega)).trans (he x h1);exact⟨this.fs,this.bx,this.ff,this.qu⟩,fun V hV=>h.hm V fun x h1 h2 h3=>(hV x h1 h2 (by omega)).trans (he x h1),h.s,h.b.setCell h.x.1 _,h.x⟩
theorem kS.lostM (h:kS w p q C1 s1 C2 s2 W):kS w p q C1 s1 { C2 with ho:={ C2.ho with lo:=0 } } s2 (W.setCell ⟨q,19,none⟩ (I J 0)):=by
 have he:∀ x,x≠q→(W.setCell ⟨q,19,none⟩ (I J 0)).heap[x]?=W.heap[x]?:=fun x hx=>sO q x hx [_] _ _
 have hz:(W.setCell ⟨q,19,none⟩ (I J 0)).heap.size=W.heap.size:=by simp
 exact⟨h.c.setOther h.x.2.2 _ _,h.m.set 19 _,fun V hV=>h.hc V fun x h1 h2 h3=>(hV x h1 h2 (by omega)).trans (he x h2),fun V hV=>by have:=h.hm V fun x h1 h2 h3=>(hV x h1 h2 (by omega)).trans (he x h2);exact⟨this.fs,this.bx,this.ff,this.qu⟩,h.s,h.b.setCell h.x.2.1 _,h.x⟩
section
variable {ops : Array Oper} {rest : List Oper} {op : Oper} {ac : Act} {Q : Exit → Act → World → Prop} {x y : Operand}
theorem ld41 {p:Nat} (h:blk W p (coL C s) 41) (hK:wpList Tp ops Q rest (ac.put op.dst (aG (coL C s).toArray)) W) (hgd:op.guard=none:=by rfl) (ho:op.op = .load 41 x:=by rfl) (hx:ac.eval x = pT (some ⟨p,0,none⟩):=by rfl):wpList Tp ops Q (op :: rest) ac W:=
 wpList_load_mid (P:=Tp) hgd 41 x ho p 0 hx (coL C s) _ h.load Tryz.underlying41 rfl (szC41L _ _) hK
theorem ld41h {p:Nat} (h:blk W p (coL C s) 41) (hK:wpList Tp ops Q rest (ac.put op.dst (aG (hoL C.ho s).toArray)) W) (hgd:op.guard=none:=by rfl) (ho:op.op = .load 39 x:=by rfl) (hx:ac.eval x = pT (some ⟨p,11,none⟩):=by rfl):wpList Tp ops Q (op :: rest) ac W:=
 wpList_load_mid (P:=Tp) hgd 39 x ho p 11 hx (hoL C.ho s) _ h.hostAt Tryz.underlying39 rfl (sz41L _ _) hK
theorem kS.svc (h:kS w p q C1 s1 C2 s2 W) (hb:St W.heap.size W' (fun V=>isHo V T.ho s)∧slSome s∧Below W.heap.size W W') (hK:∀ W8,Hid (kS w p q T s C2 s2 W8)→wpList Tp ops Q rest (ac.put op.dst undef) W8) (hgd:op.guard=none:=by rfl) (ho:op.op = .store 41 x y:=by rfl) (hx:ac.eval x = pT (some ⟨p,0,none⟩):=by rfl) (hy:ac.eval y = aG (coL T s).toArray:=by rfl):wpList Tp ops Q (op :: rest) ac W':=by
 have hp:=h.c.below hb.2.2
 exact wpList_store_mid (P:=Tp) hgd 41 x y ho p 0 (coL T s).toArray hx hy (hp.there 0 21 (nR _)) (szC41A _ _) (cO _ _) (hK _ (h.newC hb.2.2 hb.1 hb.2.1 0 _ (hp.core rfl T s)))
theorem kS.svm (h:kS w p q C1 s1 C2 s2 W) (hb:St W.heap.size W' (fun V=>isHo V T.ho s)∧Below W.heap.size W W') (hK:∀ W8,Hid (kS w p q C1 s1 T s W8)→wpList Tp ops Q rest (ac.put op.dst undef) W8) (hgd:op.guard=none:=by rfl) (ho:op.op = .store 41 x y:=by rfl) (hx:ac.eval x = pT (some ⟨q,0,none⟩):=by rfl) (hy:ac.eval y = aG (coL T s).toArray:=by rfl):wpList Tp ops Q (op :: rest) ac W':=by
 have hp:=h.m.below hb.2
 exact wpList_store_mid (P:=Tp) hgd 41 x y ho q 0 (coL T s).toArray hx hy (hp.there 0 21 (nR _)) (szC41A _ _) (cO _ _) (hK _ (h.newM hb.2 hb.1 0 _ (hp.core rfl T s)))
theorem kS.svch (h:kS w p q C1 s1 C2 s2 W) {H:Ho} (hb:St W.heap.size W' (fun V=>isHo V H s)∧slSome s∧Below W.heap.size W W') (hK:∀ W8,Hid (kS w p q { C1 with ho:=H } s C2 s2 W8)→wpList Tp ops Q rest (ac.put op.dst undef) W8) (hgd:op.guard=none:=by rfl) (ho:op.op = .store 39 x y:=by rfl) (hx:ac.eval x = pT (some ⟨p,11,none⟩):=by rfl) (hy:ac.eval y = aG (hoL H s).toArray:=by rfl):wpList Tp ops Q (op :: rest) ac W':=by
 have hp:=h.c.below hb.2.2
 exact wpList_store_mid (P:=Tp) hgd 39 x y ho p 11 (hoL H s).toArray hx hy (hp.there 11 10 (nR _)) (sz41A _ _) (hoL_one _ _) (hK _ (h.newC (T:={ C1 with ho:=H }) hb.2.2 hb.1 hb.2.1 11 _ (hp.host H s)))
theorem kS.svmh (h:kS w p q C1 s1 C2 s2 W) {H:Ho} (hb:St W.heap.size W' (fun V=>isHo V H s)∧Below W.heap.size W W') (hK:∀ W8,Hid (kS w p q C1 s1 { C2 with ho:=H } s W8)→wpList Tp ops Q rest (ac.put op.dst undef) W8) (hgd:op.guard=none:=by rfl) (ho:op.op = .store 39 x y:=by rfl) (hx:ac.eval x = pT (some ⟨q,11,none⟩):=by rfl) (hy:ac.eval y = aG (hoL H s).toArray:=by rfl):wpList Tp ops Q (op :: rest) ac W':=by
 have hp:=h.m.below hb.2
 exact wpList_store_mid (P:=Tp) hgd 39 x y ho q 11 (hoL H s).toArray hx hy (hp.there 11 10 (nR _)) (sz41A _ _) (hoL_one _ _) (hK _ (h.newM (T:={ C2 with ho:=H }) hb.2 hb.1 11 _ (hp.host H s)))
end
variable {C T:Co}
def tlN (q:List R8) (j:Nat):Nat:=(q.take j).countP fun e=>e.x == 10
theorem tlN_succ {q:List R8} {j:Nat} (hj:j<q.length):tlN q (j+1)=tlN q j+(if q[j].x=10 then 1 else 0):=by
 unfold tlN
 rw[List.take_succ_eq_append_getElem hj,List.countP_append]
 congr 1
 by_cases e:q[j].x=10
 ·rw[if_pos e];simp[e]
 ·rw[if_neg e];simp[e]
theorem tlN_le (q:List R8) (j:Nat):tlN q j≤q.length:=by
 unfold tlN
 exact nT List.countP_le_length (by simp;omega)
theorem cnt0 {Q:List R8} (h:∀ e ∈ Q,R8.x e≠10):Q.countP (fun e=>e.x == 10)=0:=List.countP_eq_zero.2 fun e he=>by simpa using h e he
theorem evP_cnt (h:evP C T):(∀ j (hj:j<T.ho.qu.length),T.ho.qu[j].x=10→j+1=T.ho.qu.length∧T.ho.qu[j].y=esZ T.p T.te T.re)∧(T.ho.lo=0→(tlN T.ho.qu T.ho.qu.length=1↔esZ T.p T.te T.re≠esZ C.p C.te C.re)):=by
 rcases h with⟨h1,h2⟩|⟨Q,ev,h1,h2,h3,h4,h5⟩
 ·refine⟨fun j hj e=>absurd e (h1 _ (List.getElem_mem hj)),fun e=>?_⟩
  have:tlN T.ho.qu T.ho.qu.length=0:=by unfold tlN;rw[List.take_length];exact cnt0 h1
  rw[this,h2 e]
  simp
 ·rw[h2]
  refine⟨fun j hj e=>?_,fun _=>?_⟩
  ·have hj':j<Q.length+1:=by simpa using hj
   by_cases hl:j<Q.length
   ·rw[List.getElem_append_left hl] at e
    exact absurd e (h1 _ (List.getElem_mem hl))
   ·have:j=Q.length:=by omega
    subst this;rw[List.getElem_append_right (nR _)]
    simp[h4]
  ·have:tlN (Q++[ev]) (Q++[ev]).length=1:=by unfold tlN;rw[List.take_length,List.countP_append,cnt0 h1];simp[h3]
   rw[this]
   simp[h5]
theorem okCo.cnt (h:okCo T):(T.te=256∧esZ T.p T.te T.re=2)∨(128≤T.te∧T.te<256∧esZ T.p T.te T.re=1)∨(T.te<128∧128≤T.re∧esZ T.p T.te T.re=1)∨(T.te<128∧T.re<128∧esZ T.p T.te T.re=0):=by
 rw[h.es]
 have h1:=h.m.te
 unfold stZ
 by_cases e:T.te=256
 ·exact Or.inl ⟨e,if_pos e⟩
 rw[if_neg e]
 by_cases e2:128≤T.te
 ·exact Or.inr (Or.inl ⟨e2,by omega,if_pos (Or.inl e2)⟩)
 by_cases e3:128≤T.re
 ·exact Or.inr (Or.inr (Or.inl ⟨by omega,e3,if_pos (Or.inr e3)⟩))
 ·exact Or.inr (Or.inr (Or.inr ⟨by omega,by omega,if_neg (by omega)⟩))
theorem kS.new {w w1 w2:World} {s1 s2:Sl} {v:World} (b1:Below w.heap.size w w1) (h1:St (w.heap.size+1) w1 (fun W=>isHo W C.ho s1)) (hs:slSome s1) (hv:v=(w1.alloc (.cells Z21.toArray 41)).setCells w1.heap.size 0 (coL C s1)) (b2:Below v.heap.size v w2) (h2:St (v.heap.size+1) w2 (fun W=>isHo W C.ho s2)):kS w w1.heap.size w2.heap.size C s1 C s2 ((w2.alloc (.cells Z21.toArray 41)).setCells w2.heap.size 0 (coL C s2)):=by
 have ba:Below w1.heap.size w1 (w1.alloc (.cells Z21.toArray 41)):=(bW _ _).alloc (nR _) _
 have bv:Below w1.heap.size w1 v:=by rw[hv];exact sW (nR _) _ _ ba
 have zv:v.heap.size=w1.heap.size+1:=by rw[hv,sZ];simp
 have cv:blk v w1.heap.size (coL C s1) 41:=by rw[hv];exact (blk.new w1 Z21 41).core rfl C s1
 have ba2:Below w2.heap.size w2 (w2.alloc (.cells Z21.toArray 41)):=(bW _ _).alloc (nR _) _
 have b3:Below w2.heap.size w2 ((w2.alloc (.cells Z21.toArray 41)).setCells w2.heap.size 0 (coL C s2)):=sW (nR _) _ _ ba2
 have z3:((w2.alloc (.cells Z21.toArray 41)).setCells w2.heap.size 0 (coL C s2)).heap.size=w2.heap.size+1:=by rw[sZ];simp
 have y1:=b1.size
 have y2:=b2.size
 refine⟨(cv.below b2).below b3,(blk.new w2 Z21 41).core rfl C s2,fun V hV=>h1 V fun x q1 q2=>?_,fun V hV=>h2 V fun x q1 q2=>?_,hs,(b1.trans (bv.mono b1.size)).trans ((b2.trans (b3.mono b2.size)).mono (by omega)),by omega,by omega,by omega⟩
 ·exact (hV x (by omega) (by omega) (by omega)).trans ((b3.block x (by omega)).trans ((b2.block x (by omega)).trans (bv.block x q2)))
 ·exact (hV x (by omega) (by omega) (by omega)).trans (b3.block x q2)
end Go.Proofs.YtkfcfigbgmbaiaaGreat
