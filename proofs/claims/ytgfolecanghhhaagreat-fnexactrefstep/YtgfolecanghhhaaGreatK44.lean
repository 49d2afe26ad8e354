import Derived.Test.YtgfolecanghhhaaGreatK36
import Derived.Test.YtgfolecanghhhaaGreatK43
import Derived.Deep.DeepCutAuto
import Derived.Deep.CutBlock
import Derived.Test.YtgfolecanghhhaaGreatK40
namespace Go.Proofs.YtgfolecanghhhaaGreat
open Go.Proofs.Tryz
open Option renaming none->nn,some->sQ
open Go renaming World->Wd
set_option maxRecDepth 20000
open Go.RowKit
set_option linter.all false
set_option maxHeartbeats 16000000
open Go.Value renaming int->I,slice->sL,bool->bO,pointer->pT,agg->aG
open Go.IntKind renaming i64->J
open Go.Ending renaming returned->rT
open Go.Proofs.Tryz renaming prog->Tp
def K7 (w:Wd) (C:Co) (s:Sl) (h:aK w C.ho s) (hn:C.ho.le 1048576) :
  Calls Tp 28 #[aG (coL C s).toArray] w fun o w'=>∃ s' κ,o = rT (aG (coL C s').toArray)/\Hid ((hG κ C.ho s' w'/\mvH κ w κ w')/\∀ x,x<w.heap.size->κ x=0):=by
 have hb0:Bl w ((w.alloc (.cells (coL C s).toArray 43)).alloc (.cells Z21.toArray 43)):=Zw.alloc pQ _;have hr0:blk ((w.alloc (.cells (coL C s).toArray 43)).alloc (.cells Z21.toArray 43)) (w.heap.size+1) Z21 43:=by simpa using blk.new (w.alloc (.cells (coL C s).toArray 43)) Z21 43
 have hp0:blk ((w.alloc (.cells (coL C s).toArray 43)).alloc (.cells Z21.toArray 43)) w.heap.size (coL C s) 43:=(blk.new w _ 43).alloc _;have HC:Hid (∀ W,Bl w W->Calls Tp 55 #[aG (hoL C.ho s).toArray] W fun o w'=>∃ s' κ,o = rT (aG (hoL C.ho s').toArray)/\hG κ C.ho s' w'/\(∀ x,x<W.heap.size+3->κ x=0)/\Bl W w'):=fun W hW=>MI W C.ho s (h.below hW) hn;have F0:=eE (qG hb0 (qG hr0 hp0));clear h hn hb0 hr0 hp0;go_enter func28,ntmps28;go_wp2_with (refine ZG 41 F0.o.2.2.hostAt underlying41 (jT _ _) ?_);refine (HC.o _ F0.o.1).mono ?_;rintro o w1 ⟨s1,κ1,rfl,g1,n1,b1⟩;have hlt:=F0.o.2.1.lt;have hb1:=F0.o.1.trans (b1.mono F0.o.1.size);have F1:Hid (fc2 w κ1 κ1 C s C.ho s1 w1):=⟨F0.o.2.2.below b1,F0.o.2.1.below b1,F0.o.2.1.below b1,g1,mvH.of hb1,n1 _ om,n1 _ om,n1 _ om,om,om,om,om⟩
 have HK:Hid (∀ x,x<w.heap.size->κ1 x=0):=fun x hx=>n1 x om;clear g1 n1 b1 hlt hb1 HC F0;go_wp2_with (first | (refine fc.sh F1.o ?_;intro w2 F2) | (refine fc.ld F2.o ?_) | (refine fc.rt F2.o ?_;intro w8 b8 G8));exact bC results28 (tW b8) ⟨s1,κ1,rfl,G8.o,HK.o⟩
def Z22:List Value:=[I J 0,I J 0,I J 0,bO false,bO false,bO false,bO false,bO false,I J 0,I J 0,I J 0,I J 0,I J 0,I J 0,I J 0,sL nn 0 0,sL nn 0 0,sL nn 0 0,sL nn 0 0,I J 0,I J 0,.string ⟨#[]⟩]
section
variable {κ κ' κ0 : Nat -> Nat} {C C' C2 : Co} {H H' H2 : Ho} {s s0 s' s1 s2 : Sl} {w W W' : Wd} {p r q : Nat} {FL : List Value} {T : TypeId} {hd hd' hd2 : ByteArray}
def rA (w:Wd) (κ:Nat->Nat) (C':Co) (hd':ByteArray) (o:Ending) (w':Wd):Prop:=∃ s' κ',o = rT (aG (rfL C' s' hd').toArray)/\Hid (hG κ' C'.ho s' w'/\mvH κ w κ' w')
structure fr (w:Wd) (κ0:Nat->Nat) (vp vr vq:Nat) (FL:List Value) (T:TypeId) (κ:Nat->Nat) (C:Co) (s0:Sl) (hd:ByteArray) (H:Ho) (s:Sl) (W:Wd):Prop where
 p:blk W vp (rfL C s0 hd) 45
 r:blk W vr Z22 45
 f:blk W vq FL T
 g:hG κ H s W
 m:mvH κ0 w κ W
 z:κ vp=0/\κ vr=0/\κ vq=0/\vp≠vr/\vp≠vq/\w.heap.size<=vp/\w.heap.size<=vr
def fr.call (h:fr w κ0 p r q FL T κ C s0 hd H s W) (hg:hG κ' H' s' W'/\mvH κ W κ' W'):fr w κ0 p r q FL T κ' C s0 hd H' s' W':=
 ⟨hg.2.blk h.p h.z.1,hg.2.blk h.r h.z.2.1,hg.2.blk h.f h.z.2.2.1,hg.1,h.m.trans hg.2,by rw[hg.2.c p h.p.lt,hg.2.c r h.r.lt,hg.2.c q h.f.lt];exact h.z⟩
def fr.below (h:fr w κ0 p r q FL T κ C s0 hd H s W) (hb:Bl W W'):fr w κ0 p r q FL T κ C s0 hd H s W':=h.call ⟨h.g.below hb,mvH.of hb⟩
def fr.cells (h:fr w κ0 p r q FL T κ C s0 hd H s W) (o:Nat) (vs:List Value) (hL:blk (W.setCells p o vs) p (rfL C' s' hd') 45):fr w κ0 p r q FL T κ C' s' hd' H s (W.setCells p o vs):=
 ⟨hL,h.r.other h.z.2.2.2.1.symm _ _,h.f.other h.z.2.2.2.2.1.symm _ _,h.g.cells h.z.1 _ _,h.m.cells (qr h.z.2.2.2.2.2.1) _ _,h.z⟩
def fr.set (h:fr w κ0 p r q FL T κ C s0 hd H s W) (i:Nat) (v:Value) (C':Co) (hd':ByteArray) (e:(rfL C s0 hd).set i v=rfL C' s0 hd'):fr w κ0 p r q FL T κ C' s0 hd' H s (W.setCell ⟨p,i,nn⟩ v):=h.cells i [v] (by rw[<- e];exact h.p.set i v)
def Kh {W:Wd} {b:Nat} {T:TypeId} (h:blk W b (rfL C s hd) T) (C':Co) (s':Sl):blk (W.setCells b 0 (coL C' s')) b (rfL C' s' hd) T:=by
 have:=blk.put [] (coL C s) [.string hd] (coL C' s') (w:=W) (b:=b) (T:=T) (by simpa[rfL] using h) (by rw[cL,cL]);simpa[rfL] using this
def IF {W:Wd} {b:Nat} (h:blk W b Z22 45) (C':Co) (s':Sl) (hd':ByteArray):blk (W.setCells b 0 (rfL C' s' hd')) b (rfL C' s' hd') 45:=by
 have:=blk.put [] Z22 [] (rfL C' s' hd') (w:=W) (b:=b) (T:=45) (by simpa using h) (by rw[uI];rfl);simpa using this
def fr.new2 (h:hG κ C.ho s w) (hd:ByteArray):fr w κ w.heap.size (w.heap.size+1) (w.heap.size+1) Z22 45 κ C s hd C.ho s ((w.alloc (.cells (rfL C s hd).toArray 45)).alloc (.cells Z22.toArray 45)):=by
 have hb:Bl w ((w.alloc (.cells (rfL C s hd).toArray 45)).alloc (.cells Z22.toArray 45)):=Zw.alloc pQ _;have hr:blk ((w.alloc (.cells (rfL C s hd).toArray 45)).alloc (.cells Z22.toArray 45)) (w.heap.size+1) Z22 45:=by simpa using blk.new (w.alloc (.cells (rfL C s hd).toArray 45)) Z22 45
 exact⟨(blk.new w _ 45).alloc _,hr,hr,h.below hb,mvH.of hb,h.no (nR _),h.no (nA _ _),h.no (nA _ _),om,om,om,om⟩
def fr.new3 (h:hG κ C.ho s w) (hd:ByteArray) (FL:List Value):fr w κ w.heap.size (w.heap.size+1+1) (w.heap.size+1) FL 57 κ C s hd C.ho s (((w.alloc (.cells (rfL C s hd).toArray 45)).alloc (.cells FL.toArray 57)).alloc (.cells Z22.toArray 45)):=by
 have hb:Bl w (((w.alloc (.cells (rfL C s hd).toArray 45)).alloc (.cells FL.toArray 57)).alloc (.cells Z22.toArray 45)):=(Zw.alloc pQ _).alloc (by simp;omega) _;have hr:blk (((w.alloc (.cells (rfL C s hd).toArray 45)).alloc (.cells FL.toArray 57)).alloc (.cells Z22.toArray 45)) (w.heap.size+1+1) Z22 45:=by simpa using blk.new ((w.alloc (.cells (rfL C s hd).toArray 45)).alloc (.cells FL.toArray 57)) Z22 45
 have hf:blk ((w.alloc (.cells (rfL C s hd).toArray 45)).alloc (.cells FL.toArray 57)) (w.heap.size+1) FL 57:=by simpa using blk.new (w.alloc (.cells (rfL C s hd).toArray 45)) FL 57
 exact⟨((blk.new w _ 45).alloc _).alloc _,hr,hf.alloc _,h.below hb,mvH.of hb,h.no (nR _),h.no (by rw[Nat.add_assoc];exact nA _ _),h.no (nA _ _),om,om,om,om⟩
def KQ {w:Wd} {b:Nat} {T:TypeId} (h:blk w b (rfL C s hd) T):w.rangeAt b 0 (coL C s):=by
 have:=blk.loadAt [] (coL C s) [.string hd] (w:=w) (b:=b) (T:=T) (by simpa[rfL] using h);simpa using this
section
variable {ops : Array Oper} {rest : List Oper} {op : Oper} {a : Act} {Q : Exit -> Act -> Wd -> Prop} {x y : Operand}
def fr.ld (h:fr w κ0 p r q FL T κ C s0 hd H s W) (K:wpList Tp ops Q rest (a.put op.dst (aG (rfL C s0 hd).toArray)) W) (hgd:op.guard=nn:=by rfl) (ho:op.op = .load 45 x:=by rfl) (hx:a.eval x = pT (sQ ⟨p,0,nn⟩):=by rfl):wpList Tp ops Q (op :: rest) a W:=
 Qz (P:=Tp) hgd 45 x ho p 0 hx (rfL C s0 hd) _ h.p.load underlying45 rfl vI K
def fr.lc (h:fr w κ0 p r q FL T κ C s0 hd H s W) (K:wpList Tp ops Q rest (a.put op.dst (aG (coL C s0).toArray)) W) (hgd:op.guard=nn:=by rfl) (ho:op.op = .load 43 x:=by rfl) (hx:a.eval x = pT (sQ ⟨p,0,nn⟩):=by rfl):wpList Tp ops Q (op :: rest) a W:=
 Qz (P:=Tp) hgd 43 x ho p 0 hx (coL C s0) _ (KQ h.p) underlying43 rfl (cy _ _) K
def fr.sc (h:fr w κ0 p r q FL T κ C s0 hd H s W) (K:∀ W8,Hid (fr w κ0 p r q FL T κ C2 s2 hd H s W8)->wpList Tp ops Q rest (a.put op.dst undef) W8) (hgd:op.guard=nn:=by rfl) (ho:op.op = .store 43 x y:=by rfl) (hx:a.eval x = pT (sQ ⟨p,0,nn⟩):=by rfl) (hy:a.eval y = aG (coL C2 s2).toArray:=by rfl):wpList Tp ops Q (op :: rest) a W:=
 QD (P:=Tp) hgd 43 x y ho p 0 (coL C2 s2).toArray hx hy (h.p.there 0 21 (by rw[uI];decide)) (nO _ _) (cO _ _) (K _ (h.cells 0 _ (Kh h.p C2 s2)))
def fr.rt (h:fr w κ0 p r q FL T κ C s0 hd H s W) (K:∀ W8,blk W8 r (rfL C2 s2 hd2) 45->Hid (hG κ H s W8/\mvH κ0 w κ W8)->wpList Tp ops Q rest (a.put op.dst undef) W8) (hgd:op.guard=nn:=by rfl) (ho:op.op = .store 45 x y:=by rfl) (hx:a.eval x = pT (sQ ⟨r,0,nn⟩):=by rfl) (hy:a.eval y = aG (rfL C2 s2 hd2).toArray:=by rfl):wpList Tp ops Q (op :: rest) a W:=
 QD (P:=Tp) hgd 45 x y ho r 0 (rfL C2 s2 hd2).toArray hx hy (h.r.there 0 22 (nR _)) vI (uH _ _ _) (K _ (IF h.r C2 s2 hd2) ⟨h.g.cells h.z.2.1 _ _,h.m.cells (qr h.z.2.2.2.2.2.2) _ _⟩)
end
def At (h:blk W p (rfL C s hd) 45):(loadVar 45 ⟨p,0,nn⟩).run Tp W = .ok (aG (rfL C s hd).toArray) W:=QI (P:=Tp) W p 0 45 _ _ h.load underlying45 rfl vI
end
section
variable {κ κ1 κ0 : Nat -> Nat} {C C2 : Co} {H : Ho} {s s1 : Sl} {w W : World}
def ja {ops:Array Oper} {rest:List Oper} {op:Oper} {a:Act} {w:World} {Q:Exit->Act->World->Prop} (hgd:op.guard=none) (ty:TypeId) (ps:Array (Nat × Operand)) (ho:op.op = .build ty ps)
  (pv:Array (Nat × Value)) (hp:(ps.map fun p=>(p.1,a.eval p.2))=pv) (v:Value) (hr:(Instr.build ty pv).run Tp w = .ok v w)
  (h:wpList Tp ops Q rest (a.put op.dst v) w):wpList Tp ops Q (op :: rest) a w:=
 wpList_plain hgd fun _ hK=>by
  unfold Oper.wp execOp;simp only[ho,hp,Q7,hr,Result.andThen_ok,Sem.run_pure];exact hK _ _ h
def Gp (w:World):(Instr.build 67 #[]).run Tp w = .ok (frV false 0 false 0 none 0 0) w:=kr
def Iy (h:hG κ C.ho s w) (hd:ByteArray) (k:Int) (hok:MV C) (hp:C.p≠7) (hn:C.ho.le 1048576) :
  Calls Tp 64 #[aG (rfL C s hd).toArray,I J k] w (rA w κ (af C (aS C k)) ⟨#[]⟩):=by
 have F0:Hid _:=fr.new2 h hd;have HC:Hid (∀ W,hG κ C.ho s W->Calls Tp 58 #[aG (coL C s).toArray,I J k] W (cA W κ (af C (aS C k)))):=fun W hW=>He hW k hok hp hn;clear h hok hp hn;generalize af C (aS C k)=X at *;go_enter func64,ntmps64;go_wp2_with (refine fr.lc F0.o ?_);refine (HC.o _ F0.o.g).mono ?_;rintro o w1 ⟨s1,κ1,rfl,G1⟩;have F1:Hid _:=F0.o.call G1.o;clear G1 F0 HC;go_wp2_with (first | (refine ja rfl 45 _ rfl _ (by simp[go_sem]) _ (IW _ X s1 ⟨#[]⟩) ?_) | (refine fr.rt (C2:=X) (s2:=s1) (hd2:=⟨#[]⟩) F1.o ?_;intro w8 b8 G8));exact bC results64 (At b8) ⟨s1,κ1,rfl,G8⟩
def zF5:R5:=⟨false,0,false,0,[]⟩
def GL (h:hG κ C.ho s w) (hd:ByteArray) (k:Int) (hk:k≠2) (hok:MV C) (hp:C.p=1) (hn:C.ho.le 1048576) :
  Calls Tp 67 #[aG (rfL C s hd).toArray,I J k] w (rA w κ (af C (aw C k zF5)) ⟨#[]⟩):=by
 have F0:Hid _:=fr.new2 h hd;have HC:Hid (∀ W,hG κ C.ho s W->Calls Tp 66 #[aG (coL C s).toArray,I J k,frV false 0 false 0 none 0 0] W (cA W κ (af C (aw C k zF5)))):=fun W hW=>Gx hW k zF5 none 0 0 hok hp hn (fun e=>Qy e hk) (by decide);clear h hok hp hn hk;generalize af C (aw C k zF5)=X at *;go_enter func67,ntmps67;go_wp2_with (first | (refine fr.lc F0.o ?_) | (refine ja rfl 67 _ rfl _ (by simp[go_sem]) _ (Gp _) ?_));refine (HC.o _ F0.o.g).mono ?_;rintro o w1 ⟨s1,κ1,rfl,G1⟩;have F1:Hid _:=F0.o.call G1.o;clear G1 F0 HC;go_wp2_with (first | (refine ja rfl 45 _ rfl _ (by simp[go_sem]) _ (IW _ X s1 ⟨#[]⟩) ?_) | (refine fr.rt (C2:=X) (s2:=s1) (hd2:=⟨#[]⟩) F1.o ?_;intro w8 b8 G8));exact bC results67 (At b8) ⟨s1,κ1,rfl,G8⟩
end
def Je (w:World) (C:Co) (s:Sl) (hd:ByteArray) (h:aK w C.ho s) (hn:C.ho.le 1048576) :
  Calls Tp 13 #[aG (rfL C s hd).toArray] w fun o w'=>∃ s' κ,o = rT (aG (rfL C s' hd).toArray)/\Hid ((hG κ C.ho s' w'/\mvH κ w κ w')/\∀ x,x<w.heap.size->κ x=0):=by
 have H0:Hid (blk ((w.alloc (.cells (rfL C s hd).toArray 45)).alloc (.cells Z22.toArray 45)) w.heap.size (rfL C s hd) 45/\blk ((w.alloc (.cells (rfL C s hd).toArray 45)).alloc (.cells Z22.toArray 45)) (w.heap.size+1) Z22 45/\Bl w ((w.alloc (.cells (rfL C s hd).toArray 45)).alloc (.cells Z22.toArray 45))):=by
  refine⟨(blk.new w _ 45).alloc _,?_,Zw.alloc pQ _⟩;have:=blk.new (w.alloc (.cells (rfL C s hd).toArray 45)) Z22 45;simpa using this
 obtain⟨v0,hv0⟩ : ∃ v0,v0=(w.alloc (.cells (rfL C s hd).toArray 45)).alloc (.cells Z22.toArray 45):=⟨_,rfl⟩
 rw[<- hv0] at H0;have HC:Hid (∀ V,Bl w V->Calls Tp 28 #[aG (coL C s).toArray] V fun o w'=>∃ s' κ,o = rT (aG (coL C s').toArray)/\Hid ((hG κ C.ho s' w'/\mvH κ V κ w')/\∀ x,x<V.heap.size->κ x=0)):=fun V hV=>K7 V C s (h.below hV) hn;clear h hn;go_enter func13,ntmps13;go_upto_region 1 with fail
 change Code.wp _ _ _ _ ((w.alloc (.cells (rfL C s hd).toArray 45)).alloc (.cells Z22.toArray 45));rw[<- hv0];clear hv0;refine QJ (S:=fun X=>blk X w.heap.size (rfL C s hd) 45) kr ?_;have hS:blk (World.drew v0) w.heap.size (rfL C s hd) 45:=H0.o.1.below (bW _ _).drew;have H1:Hid (blk (World.drew v0) (w.heap.size+1) Z22 45/\Bl w (World.drew v0)):=⟨H0.o.2.1.below (bW _ _).drew,H0.o.2.2.drew⟩
 clear H0;change wpAnyH Tp _ _ _ _ _ _ _ (World.drew v0);generalize World.drew v0=v1 at *;refine wV 0 (pT (some ⟨w.heap.size,0,none⟩)) ?_ hS ?_
 .intro W hSw;clear hS;go_simp
 simp only[Act.put,aA,aB,aC,aD,aE];refine wU 1 (aG (coL C s).toArray) rfl (QL (by rfl) 43 _ rfl w.heap.size 0 rfl (coL C s) _ (fun X h=>KQ h) underlying43 rfl (cy C s)) hS ?_;simp only[aZ];refine wV 3 (pT (some ⟨w.heap.size,21,none⟩)) ?_ hS ?_
 .intro W hSw;clear hS;go_simp
 simp only[aZ];refine wV 4 (.string hd) ?_ hS ?_
 .intro W hSw;clear hS;have y:=hSw.cell 21 (.string hd) rfl;go_simp
 simp only[aZ];refine QF (rs:=[2]) kr pQ ?_;refine Q8 rfl (fun K2 hK2=>?_) Q9;go_simp;refine (HC.o v1 H1.o.2).mono ?_;rintro o w2 ⟨s',κ1,rfl,G1⟩;have hS2:blk w2 w.heap.size (rfL C s hd) 45:=G1.o.1.2.blk hS (G1.o.2 _ hS.lt);have H2:Hid (blk w2 (w.heap.size+1) Z22 45/\hG κ1 C.ho s' w2/\mvH κ1 w κ1 w2/\(∀ x,x<v1.heap.size->κ1 x=0)/\w.heap.size+1<v1.heap.size):=⟨G1.o.1.2.blk H1.o.1 (G1.o.2 _ H1.o.1.lt),G1.o.1.1,(mvH.of H1.o.2).trans G1.o.1.2,G1.o.2,H1.o.1.lt⟩
 clear G1 H1;go_wp2_with fail;refine hK2.out _ _ hS2 (fun hS3=>?_);clear hK2 K2 hS2 hS;have hS:=hS3;clear hS3;refine wV 5 ((aG (rfL C s' hd).toArray)) ?_ hS ?_
 .intro W hSw;clear hS;kernel_rfl
 simp only[aZ];refine QF (rs:=[6]) kr pQ ?_;refine Q8 rfl (fun K2 hK2=>?_) Q9;rw[qc (by rfl)];refine QT 45 _ _ rfl (w.heap.size+1) 0 (rfL C s' hd).toArray rfl rfl (H2.o.1.there 0 _ (by rw[qR,uI];decide)) vI (uH _ _ _) ?_;have hS5:blk (w2.setCells (w.heap.size+1) 0 (rfL C s' hd)) w.heap.size (rfL C s hd) 45:=hS.other om _ _;refine hK2.out _ _ hS5 (fun hS3=>?_);clear hK2 K2 hS5 hS hS3;refine QH kr ?_ _;simp only[Act.put];generalize hW8:w2.setCells (w.heap.size+1) 0 (rfL C s' hd)=w8;have HW8:=DU hW8;clear hW8;go_wp2_with fail;have e8:=HW8.o;have hF:blk w8 (w.heap.size+1) (rfL C s' hd) 45:=by
  rw[<- e8];have:=blk.put [] Z22 [] (rfL C s' hd) (w:=w2) (b:=w.heap.size+1) (T:=45) (by simpa using H2.o.1) (by rw[uI];rfl);simpa using this
 have hL:=QI (P:=Tp) w8 (w.heap.size+1) 0 45 _ _ hF.load underlying45 rfl vI;refine bC results13 hL ?_;refine⟨s',κ1,rfl,?_⟩;rw[<- e8];exact⟨⟨H2.o.2.1.cells (H2.o.2.2.2.1 _ H2.o.2.2.2.2) _ _,H2.o.2.2.1.cells (qr (nA _ _)) _ _⟩,fun x hx=>H2.o.2.2.2.1 x (by have:=H2.o.2.2.2.2;omega)⟩
def Kr (w:World) (n:Int):Calls Tp 65 #[I J n] w fun o w'=>o = rT (bO (decide (2<=n) && decide (n<=6)))/\w=w':=by
 obtain⟨a,ea⟩ : ∃ a,decide (2<=n)=a:=⟨_,rfl⟩
 obtain⟨b,eb⟩ : ∃ b,decide (n<=6)=b:=⟨_,rfl⟩
 rw[ea,eb];have ea':decide (n >= 2)=a:=ea;go_enter func65,ntmps65
 cases a <;> cases b <;> (
  go_wp2_with fail;go_ret;exact⟨rfl,rfl⟩)
def da (b:Nat):ByteArray:=ae (M.num b 1)
def J6 (w:World) (b:Nat) (hb:b=0\/b=1):Calls Tp 53 #[I J (b:Int),I J 1] w fun o w'=>o = rT (.string (da b))/\w'=w:=jE b 1 w om om
def uS (C:Co) (more:ByteArray) (last:Bool) (nx:Int) (due:Bool) (d b:Nat):Co × ByteArray:=
 if d=0/\b=1 then (af C (aS C 1),⟨#[]⟩)
 else if d=1/\b=0/\(decide (2<=nx) && decide (nx<=6))=true then (if due=true then (af C (aS C 6),⟨#[]⟩) else (af C (aw C 5 zF5),more))
 else if d=1/\b=0/\nx≠12 then (af C (aS C 1),⟨#[]⟩)
 else if d=b/\nx=12 then (af C (aS C 5),⟨#[]⟩)
 else if last=true then (af C (aw C 1 zF5),⟨#[]⟩)
 else (C,more)
section
variable {κ κ1 κ0 : Nat -> Nat} {C C2 : Co} {H : Ho} {s s1 : Sl} {w W : World}
abbrev fr3 (w:World) (κ0:Nat->Nat) (FL:List Value) (κ:Nat->Nat) (C:Co) (s0:Sl) (hd:ByteArray) (H:Ho) (s:Sl) (W:World):Prop:=fr w κ0 w.heap.size (w.heap.size+1+1) (w.heap.size+1) FL 57 κ C s0 hd H s W
def KY (h:hG κ C.ho s w) (hd img:ByteArray) (vc vf:Int) (vd vo:Bool) (x b:Nat) (hb:b=0\/b=1) (hx:∃ h:hd.size<img.size,img[hd.size].toNat=x+48) (hx2:x=0\/x=1) (hsz:img.size<=1000000) (hok:MV C) (hp:C.p=1) (hn:C.ho.le 1048576) :
  Calls Tp 30 #[aG (rfL C s hd).toArray,.string img,aG #[I J vc,I J vf,bO vd,bO vo],I J (b:Int)] w (rA w κ (uS C (hd++da b) (decide ((hd++da b).size=img.size)) vf vd x b).1 (uS C (hd++da b) (decide ((hd++da b).size=img.size)) vf vd x b).2):=by
 have F0:Hid _:=fr.new3 h hd [I J vc,I J vf,bO vd,bO vo];have hp7:C.p≠7:=by rw[hp];decide
 have HFT:Hid (∀ k W,hG κ C.ho s W->Calls Tp 64 #[aG (rfL C s hd).toArray,I J k] W (rA W κ (af C (aS C k)) ⟨#[]⟩)):=fun k W hW=>Iy hW hd k hok hp7 hn;have HF1:Hid (∀ W,hG κ C.ho s W->Calls Tp 67 #[aG (rfL C s hd).toArray,I J 1] W (rA W κ (af C (aw C 1 zF5)) ⟨#[]⟩)):=fun W hW=>GL hW hd 1 (by decide) hok hp hn;have HF5:Hid (∀ W,hG κ C.ho s W->Calls Tp 66 #[aG (coL C s).toArray,I J 5,frV false 0 false 0 none 0 0] W (cA W κ (af C (aw C 5 zF5)))):=fun W hW=>Gx hW 5 zF5 none 0 0 hok hp hn (fun e=>Qy e (by decide)) (by decide);have HBT:Hid (∀ W,Calls Tp 53 #[I J (b:Int),I J 1] W fun o w'=>o = rT (.string (da b))/\w'=W):=fun W=>J6 W b hb;have hbs:(da b).size=1:=by rcases hb with rfl | rfl <;> rfl
 generalize da b=bt at *;obtain⟨hl,hxv⟩:=hx;generalize hxx:img[hd.size].toNat=xx at *;subst hxv;clear h hok hp hn hp7;obtain⟨la,ela⟩ : ∃ la,decide ((hd++bt).size=img.size)=la:=⟨_,rfl⟩
 have l1:(((hd++bt).size:Int) == (img.size:Int))=la:=by rw[<- ela,qk];simp;omega
 have l2:(((hd.size:Int)+(bt.size:Int)) == (img.size:Int))=la:=by rw[<- l1];simp
 rw[ela];clear ela;go_enter func30,ntmps30;go_upto_region 1 with fail
 change Code.wp _ _ _ _ (((w.alloc (.cells (rfL C s hd).toArray 45)).alloc (.cells [I J vc,I J vf,bO vd,bO vo].toArray 57)).alloc (.cells Z22.toArray 45));generalize hV:((w.alloc (.cells (rfL C s hd).toArray 45)).alloc (.cells [I J vc,I J vf,bO vd,bO vo].toArray 57)).alloc (.cells Z22.toArray 45)=v0 at *;clear hV;have F0:Hid (fr3 w κ [I J vc,I J vf,bO vd,bO vo] κ C s hd C.ho s v0):=F0;have y21:=F0.o.p.cell 21 (.string hd) rfl;go_cut [9] (fun v wx=>v = I J (x:Int)/\wx=v0);case first=>
  rcases hx2 with rfl|rfl
  .go_wp2_with fail;go_meet;case rel=>exact⟨rfl,rfl⟩
  .go_wp2_with fail;go_meet;case rel=>exact⟨rfl,rfl⟩
 case rest=>
 obtain⟨rfl,hw⟩:=hcut;have hw:=hw.symm;subst hw;go_upto_region 2 with fail
 go_cut [10] (fun v wx=>v = .string (hd++bt)/\Hid (fr3 w κ [I J vc,I J vf,bO vd,bO vo] κ C s hd C.ho s wx));case first=>
  refine QJ (S:=fun X=>fr3 w κ [I J vc,I J vf,bO vd,bO vo] κ C s hd C.ho s X) kr ?_;have hS:fr3 w κ [I J vc,I J vf,bO vd,bO vo] κ C s hd C.ho s (World.drew v0):=F0.o.below (bW _ _).drew;clear F0 y21;change wpAnyH Tp _ _ _ _ _ _ _ (World.drew v0);generalize World.drew v0=v1 at *;refine wV 0 (pT (some ⟨w.heap.size,21,none⟩)) ?_ hS ?_
  .intro W hSw;clear hS;go_simp
  simp only[aZ];refine wV 1 (.string hd) ?_ hS ?_
  .intro W hSw;clear hS;have y:=hSw.p.cell 21 (.string hd) rfl;go_simp
  simp only[aZ];refine wV 2 (I J (b:Int)) ?_ hS ?_
  .intro W hSw;clear hS;go_simp
  simp only[aZ];refine QF (rs:=[3]) kr pQ ?_;refine Q8 rfl (fun K2 hK2=>?_) Q9;go_simp;refine (HBT.o v1).mono ?_;rintro o w2 ⟨rfl,rfl⟩;go_wp2_with fail;refine hK2.out _ _ hS (fun hS3=>?_);clear hK2 K2 hS3;refine wV 4 (.string (hd++bt)) ?_ hS ?_
  .intro W hSw;clear hS;go_simp;omega
  simp only[aZ];refine wV 5 (.string (hd++bt)) ?_ hS ?_
  .intro W hSw;clear hS;go_simp
  simp only[aZ];refine QH kr ?_ _;go_wp2_with fail;go_meet;case rel=>exact⟨rfl,hS⟩
 case rest=>
 obtain⟨rfl,F1⟩:=hcut;clear F0 y21 HBT hl hxx hbs hsz;have y21:=F1.o.p.cell 21 (.string hd) rfl;have z21:=F1.o.p.free 21;have v1:=F1.o.f.cell 1 (I J vf) rfl;have v2:=F1.o.f.cell 2 (bO vd) rfl;obtain⟨q12,e12,n12',f12⟩:=eqB vf 12;obtain⟨am,eam⟩ : ∃ am,(decide (2<=vf) && decide (vf<=6))=am:=⟨_,rfl⟩
 have HAR:Hid (∀ W,Calls Tp 65 #[I J vf] W fun o w'=>o = rT (bO am)/\W=w'):=fun W=>by rw[<- eam];exact Kr W vf
 have HAM:=eE eam;clear eam;rcases hx2 with rfl|rfl
 .rcases hb with rfl|rfl
  .cases q12;case true=>
    have HR:Hid (uS C (hd++bt) la vf vd 0 0=(af C (aS C 5),⟨#[]⟩)):=by show _=_;unfold uS;simp[f12.o.1 rfl]
    go_wp2_with (first | (refine fr.ld F1.o ?_) | (go_at_call 65;refine (HAR.o _).mono ?_;rintro o w1 ⟨rfl,rfl⟩));refine (HFT.o 5 _ F1.o.g).mono ?_;rintro o w2 ⟨s2,κ2,rfl,G2⟩;have F2:Hid _:=F1.o.call G2.o;clear G2;go_wp2_with (refine fr.rt F2.o ?_;intro w8 b8 G8);refine bC results30 (At b8) ?_;rw[HR.o];exact⟨s2,κ2,rfl,G8⟩
   case false=>
    have n12:vf≠12:=fun x=>by have:=f12.o.2 x;cases this
    have HN:=eE n12;clear n12;cases la;case true=>
     have HR:Hid (uS C (hd++bt) true vf vd 0 0=(af C (aw C 1 zF5),⟨#[]⟩)):=by show _=_;unfold uS;simp[HN.o]
     go_wp2_with (first | (refine fr.ld F1.o ?_) | (go_at_call 65;refine (HAR.o _).mono ?_;rintro o w1 ⟨rfl,rfl⟩));refine (HF1.o _ F1.o.g).mono ?_;rintro o w2 ⟨s2,κ2,rfl,G2⟩;have F2:Hid _:=F1.o.call G2.o;clear G2;go_wp2_with (refine fr.rt F2.o ?_;intro w8 b8 G8);refine bC results30 (At b8) ?_;rw[HR.o];exact⟨s2,κ2,rfl,G8⟩
    case false=>
     have HR:Hid (uS C (hd++bt) false vf vd 0 0=(C,hd++bt)):=by show _=_;unfold uS;simp[HN.o]
     go_upto_region 18 with (go_at_call 65;refine (HAR.o _).mono ?_;rintro o w1 ⟨rfl,rfl⟩)
     have F9:Hid _:=F1.o.set 21 (.string (hd++bt)) C (hd++bt) rfl;generalize World.setCell wc ⟨w.heap.size,21,none⟩ (.string (hd++bt))=w9 at *;go_wp2_with (first | (refine fr.ld F9.o ?_) | (refine fr.rt F9.o ?_;intro w8 b8 G8));refine bC results30 (At b8) ?_;rw[HR.o];exact⟨s,κ,rfl,G8⟩
  .have HR:Hid (uS C (hd++bt) la vf vd 0 1=(af C (aS C 1),⟨#[]⟩)):=by show _=_;unfold uS;simp
   go_wp2_with (first | (refine fr.ld F1.o ?_) | (go_at_call 65;refine (HAR.o _).mono ?_;rintro o w1 ⟨rfl,rfl⟩));refine (HFT.o 1 _ F1.o.g).mono ?_;rintro o w2 ⟨s2,κ2,rfl,G2⟩;have F2:Hid _:=F1.o.call G2.o;clear G2;go_wp2_with (refine fr.rt F2.o ?_;intro w8 b8 G8);refine bC results30 (At b8) ?_;rw[HR.o];exact⟨s2,κ2,rfl,G8⟩
 .rcases hb with rfl|rfl
  .cases am;case true=>
    cases vd;case true=>
     have HR:Hid (uS C (hd++bt) la vf true 1 0=(af C (aS C 6),⟨#[]⟩)):=by show _=_;unfold uS;rw[HAM.o];simp
     go_wp2_with (first | (refine fr.ld F1.o ?_) | (go_at_call 65;refine (HAR.o _).mono ?_;rintro o w1 ⟨rfl,rfl⟩));refine (HFT.o 6 _ F1.o.g).mono ?_;rintro o w2 ⟨s2,κ2,rfl,G2⟩;have F2:Hid _:=F1.o.call G2.o;clear G2;go_wp2_with (refine fr.rt F2.o ?_;intro w8 b8 G8);refine bC results30 (At b8) ?_;rw[HR.o];exact⟨s2,κ2,rfl,G8⟩
    case false=>
     have HR:Hid (uS C (hd++bt) la vf false 1 0=(af C (aw C 5 zF5),hd++bt)):=by show _=_;unfold uS;rw[HAM.o];simp
     go_wp2_with (first | (refine fr.lc F1.o ?_) | (refine ja rfl 67 _ rfl _ (by simp[go_sem]) _ (Gp _) ?_) | (go_at_call 65;refine (HAR.o _).mono ?_;rintro o w1 ⟨rfl,rfl⟩));refine (HF5.o _ F1.o.g).mono ?_;rintro o w2 ⟨s2,κ2,rfl,G2⟩;have F2:Hid _:=F1.o.call G2.o;clear G2;go_upto_region 10 with (refine fr.sc F2.o ?_;intro w3 F3;have y31:=F3.o.p.cell 21 (.string hd) rfl;have z31:=F3.o.p.free 21)
     have F9:Hid _:=F3.o.set 21 (.string (hd++bt)) (af C (aw C 5 zF5)) (hd++bt) rfl;generalize World.setCell w3 ⟨w.heap.size,21,none⟩ (.string (hd++bt))=w9 at *;go_wp2_with (first | (refine fr.ld F9.o ?_) | (refine fr.rt F9.o ?_;intro w8 b8 G8));refine bC results30 (At b8) ?_;rw[HR.o];exact⟨s2,κ2,rfl,G8⟩
   case false=>
    cases q12;case false=>
     have n12:vf≠12:=fun x=>by have:=f12.o.2 x;cases this
     have HN:=eE n12;clear n12;have HR:Hid (uS C (hd++bt) la vf vd 1 0=(af C (aS C 1),⟨#[]⟩)):=by show _=_;unfold uS;rw[HAM.o];simp[HN.o]
     go_wp2_with (first | (refine fr.ld F1.o ?_) | (go_at_call 65;refine (HAR.o _).mono ?_;rintro o w1 ⟨rfl,rfl⟩));refine (HFT.o 1 _ F1.o.g).mono ?_;rintro o w2 ⟨s2,κ2,rfl,G2⟩;have F2:Hid _:=F1.o.call G2.o;clear G2;go_wp2_with (refine fr.rt F2.o ?_;intro w8 b8 G8);refine bC results30 (At b8) ?_;rw[HR.o];exact⟨s2,κ2,rfl,G8⟩
    case true=>
     have HN:Hid (vf=12):=f12.o.1 rfl;cases la;case true=>
      have HR:Hid (uS C (hd++bt) true vf vd 1 0=(af C (aw C 1 zF5),⟨#[]⟩)):=by show _=_;unfold uS;rw[HAM.o];simp[HN.o]
      go_wp2_with (first | (refine fr.ld F1.o ?_) | (go_at_call 65;refine (HAR.o _).mono ?_;rintro o w1 ⟨rfl,rfl⟩));refine (HF1.o _ F1.o.g).mono ?_;rintro o w2 ⟨s2,κ2,rfl,G2⟩;have F2:Hid _:=F1.o.call G2.o;clear G2;go_wp2_with (refine fr.rt F2.o ?_;intro w8 b8 G8);refine bC results30 (At b8) ?_;rw[HR.o];exact⟨s2,κ2,rfl,G8⟩
     case false=>
      have HR:Hid (uS C (hd++bt) false vf vd 1 0=(C,hd++bt)):=by show _=_;unfold uS;rw[HAM.o];simp[HN.o]
      go_upto_region 18 with (go_at_call 65;refine (HAR.o _).mono ?_;rintro o w1 ⟨rfl,rfl⟩)
      have F9:Hid _:=F1.o.set 21 (.string (hd++bt)) C (hd++bt) rfl;generalize World.setCell wc ⟨w.heap.size,21,none⟩ (.string (hd++bt))=w9 at *;go_wp2_with (first | (refine fr.ld F9.o ?_) | (refine fr.rt F9.o ?_;intro w8 b8 G8));refine bC results30 (At b8) ?_;rw[HR.o];exact⟨s,κ,rfl,G8⟩
  .cases q12;case true=>
    have HR:Hid (uS C (hd++bt) la vf vd 1 1=(af C (aS C 5),⟨#[]⟩)):=by show _=_;unfold uS;simp[f12.o.1 rfl]
    go_wp2_with (first | (refine fr.ld F1.o ?_) | (go_at_call 65;refine (HAR.o _).mono ?_;rintro o w1 ⟨rfl,rfl⟩));refine (HFT.o 5 _ F1.o.g).mono ?_;rintro o w2 ⟨s2,κ2,rfl,G2⟩;have F2:Hid _:=F1.o.call G2.o;clear G2;go_wp2_with (refine fr.rt F2.o ?_;intro w8 b8 G8);refine bC results30 (At b8) ?_;rw[HR.o];exact⟨s2,κ2,rfl,G8⟩
   case false=>
    have n12:vf≠12:=fun x=>by have:=f12.o.2 x;cases this
    have HN:=eE n12;clear n12;cases la;case true=>
     have HR:Hid (uS C (hd++bt) true vf vd 1 1=(af C (aw C 1 zF5),⟨#[]⟩)):=by show _=_;unfold uS;simp[HN.o]
     go_wp2_with (first | (refine fr.ld F1.o ?_) | (go_at_call 65;refine (HAR.o _).mono ?_;rintro o w1 ⟨rfl,rfl⟩));refine (HF1.o _ F1.o.g).mono ?_;rintro o w2 ⟨s2,κ2,rfl,G2⟩;have F2:Hid _:=F1.o.call G2.o;clear G2;go_wp2_with (refine fr.rt F2.o ?_;intro w8 b8 G8);refine bC results30 (At b8) ?_;rw[HR.o];exact⟨s2,κ2,rfl,G8⟩
    case false=>
     have HR:Hid (uS C (hd++bt) false vf vd 1 1=(C,hd++bt)):=by show _=_;unfold uS;simp[HN.o]
     go_upto_region 18 with (go_at_call 65;refine (HAR.o _).mono ?_;rintro o w1 ⟨rfl,rfl⟩)
     have F9:Hid _:=F1.o.set 21 (.string (hd++bt)) C (hd++bt) rfl;generalize World.setCell wc ⟨w.heap.size,21,none⟩ (.string (hd++bt))=w9 at *;go_wp2_with (first | (refine fr.ld F9.o ?_) | (refine fr.rt F9.o ?_;intro w8 b8 G8));refine bC results30 (At b8) ?_;rw[HR.o];exact⟨s,κ,rfl,G8⟩
end
section
variable {w0 : World} {M : Nat} {G : Lg} {f1 f3 nm : Nat} {C : Co} {W : World}
def Ii (C:Co) (vf:Int) (du la:Bool) (d bit:Int):Co:=
 if ((d == 1 && bit == 0) && (decide (2<=vf) && decide (vf<=6)))=true then (if du=true then aS C 6 else aw C 5 zF5)
 else if ((d == 1 && bit == 0) && vf == 12)=true then C
 else if (bit != d)=true then aS C 1
 else if (vf == 12)=true then aS C 5
 else if la=true then aw C 1 zF5
 else C
def Kg (h:mx w0 M G f1 f3 nm C W) (d vf bit:Int) (du la:Bool) (s0:G.s 0 = I J d) (s1:G.s 1 = I J vf) (s2:G.s 2 = bO du) (s3:G.s 3 = bO la) (hc2:C.ho.c2=0\/C.ho.c2=1) (ht:0<=C.te/\C.te<=256) (hr:0<=C.re/\C.re<=255) (hwf:∀ j (hj:j<C.ho.bx.length),(Lit.int .i64 C.ho.bx[j].y).wf=true) :
  Calls Tp 181 #[pT (some ⟨M,0,none⟩),I J bit] W fun o w'=>o = rT (.tuple #[])/\my w0 M G f3 nm (Ii C vf du la d bit) w':=by
 have H0:=DU h;have HFT:Hid (∀ k,Calls Tp 184 #[pT (some ⟨M,0,none⟩),I J k] W fun o w'=>o = rT (.tuple #[])/\mx w0 M G f1 f3 nm (aS C k) w'):=fun k=>h.fault k ht hr hwf;have HFN:Hid (∀ k,Calls Tp 211 #[pT (some ⟨M,0,none⟩),I J k,frV false 0 false 0 none 0 0] W fun o w'=>o = rT (.tuple #[])/\my w0 M G f3 nm (aw C k zF5) w'):=fun k=>GN h k zF5 none 0 0 (yM _) (nZ _) hc2 ht hr hwf;have y12:=h.m.cell 12 (G.s 0) rfl;have y13:=h.m.cell 13 (G.s 1) rfl;have y14:=h.m.cell 14 (G.s 2) rfl;have y15:=h.m.cell 15 (G.s 3) rfl;rw[s0] at y12;rw[s1] at y13;rw[s2] at y14;rw[s3] at y15;obtain⟨q1,e1⟩ : ∃ b,(d == 1)=b:=⟨_,rfl⟩
 obtain⟨b0,e0⟩ : ∃ b,(bit == 0)=b:=⟨_,rfl⟩
 obtain⟨am,eam⟩ : ∃ b,(decide (2<=vf) && decide (vf<=6))=b:=⟨_,rfl⟩
 obtain⟨q12,e12⟩ : ∃ b,(vf == 12)=b:=⟨_,rfl⟩
 obtain⟨nb,en⟩ : ∃ b,(bit != d)=b:=⟨_,rfl⟩
 obtain⟨ov,eov⟩ : ∃ b,(q1 && b0)=b:=⟨_,rfl⟩
 have HSN:Hid (Ii C vf du la d bit=if (ov && am)=true then (if du=true then aS C 6 else aw C 5 zF5) else if (ov && q12)=true then C else if nb=true then aS C 1 else if q12=true then aS C 5 else if la=true then aw C 1 zF5 else C):=by
  show _=_;unfold Ii;rw[e1,e0,eam,e12,en,eov]
 have HIR:Hid (∀ X,Calls Tp 79 #[I J vf,I J 2,I J 6] X fun o w'=>o = rT (bO am)/\X=w'):=fun X=>by rw[<- eam];exact (by have:=dh X vf 2 6;rwa [show decide (2<=vf/\vf<=6)=(decide (2<=vf) && decide (vf<=6)) by simp] at this)
 clear h ht hr hwf s0 s1 s2 s3 eam;go_enter func181,ntmps181;go_wp2_with fail;refine (HIR.o _).mono ?_;rintro o w1 ⟨rfl,rfl⟩;go_upto_region 1 with fail
 go_cut [5] (fun v wx=>v = bO ov/\wx=W);case first=>
  cases q1 <;> cases b0 <;> (
   go_wp2_with fail;go_meet
   case rel=>exact⟨by rw[<- eov];rfl,rfl⟩)
 case rest=>
 obtain⟨rfl,hw⟩:=hcut;have hw:=hw.symm;subst hw;clear HIR eov e1 e0;cases ov;case true=>
  cases am;case true=>
   cases du;case true=>
    go_wp2_with fail;refine (HFT.o 6).mono ?_;rintro o w1 ⟨rfl,h1⟩;have H1:=DU h1;clear h1;go_wp2_with fail;refine bN ?_
    exact⟨rfl,_,by rw[HSN.o];exact H1.o⟩
   case false=>
    go_wp2_with (refine ja rfl 67 _ rfl _ (by simp[go_sem]) _ (Gp _) ?_);refine (HFN.o 5).mono ?_;rintro o w1 ⟨rfl,h1⟩;have H1:=DU h1;clear h1;go_wp2_with fail;refine bN ?_
    exact⟨rfl,by rw[HSN.o];exact H1.o⟩
  case false=>
   cases q12;case true=>
    go_wp2_with fail;refine bN ?_
    exact⟨rfl,f1,by rw[HSN.o];exact H0.o⟩
   case false=>
    cases nb;case true=>
     go_wp2_with fail;refine (HFT.o 1).mono ?_;rintro o w1 ⟨rfl,h1⟩;have H1:=DU h1;clear h1;go_wp2_with fail;refine bN ?_
     exact⟨rfl,_,by rw[HSN.o];exact H1.o⟩
    case false=>
     cases la;case true=>
      go_wp2_with (refine ja rfl 67 _ rfl _ (by simp[go_sem]) _ (Gp _) ?_);refine (HFN.o 1).mono ?_;rintro o w1 ⟨rfl,h1⟩;have H1:=DU h1;clear h1;go_wp2_with fail;refine bN ?_
      exact⟨rfl,by rw[HSN.o];exact H1.o⟩
     case false=>
      go_wp2_with fail;refine bN ?_
      exact⟨rfl,f1,by rw[HSN.o];exact H0.o⟩
 case false=>
  cases nb;case true=>
   go_wp2_with fail;refine (HFT.o 1).mono ?_;rintro o w1 ⟨rfl,h1⟩;have H1:=DU h1;clear h1;go_wp2_with fail;refine bN ?_
   exact⟨rfl,_,by rw[HSN.o];exact H1.o⟩
  case false=>
   cases q12;case true=>
    go_wp2_with fail;refine (HFT.o 5).mono ?_;rintro o w1 ⟨rfl,h1⟩;have H1:=DU h1;clear h1;go_wp2_with fail;refine bN ?_
    exact⟨rfl,_,by rw[HSN.o];exact H1.o⟩
   case false=>
    cases la;case true=>
     go_wp2_with (refine ja rfl 67 _ rfl _ (by simp[go_sem]) _ (Gp _) ?_);refine (HFN.o 1).mono ?_;rintro o w1 ⟨rfl,h1⟩;have H1:=DU h1;clear h1;go_wp2_with fail;refine bN ?_
     exact⟨rfl,by rw[HSN.o];exact H1.o⟩
    case false=>
     go_wp2_with fail;refine bN ?_
     exact⟨rfl,f1,by rw[HSN.o];exact H0.o⟩
end
section
variable {w0 : World} {M : Nat} {G : Lg} {f1 f3 nm : Nat} {C : Co} {W : World}
abbrev frL (F:R5) (fa:Option Addr) (fm fc:Nat):List Value:=[bO F.e,I .u32 (F.i:Int),bO F.r,I J F.d,sL fa fm fc]
def JS (h:mx w0 M G f1 f3 nm C W) (F:R5) (fa:Option Addr) (fm fc:Nat) (vb:Bool) (hv:vB F.e F.i F.r F.d fm=vb) (hf:iB G.u fa fm fc F.l) (hfm:fm<=1048576) (hc2:C.ho.c2=0\/C.ho.c2=1) (ht:0<=C.te/\C.te<=256) (hr:0<=C.re/\C.re<=255) (hwf:∀ j (hj:j<C.ho.bx.length),(Lit.int .i64 C.ho.bx[j].y).wf=true) :
  Calls Tp 212 #[pT (sQ ⟨M,0,nn⟩),frV F.e F.i F.r F.d fa fm fc] W fun o w'=>o = rT (.tuple #[])/\my w0 M G f3 nm (if vb=true then aw C 2 F else aS C 3) w':=by
 have hb0:Bl W (W.alloc (.cells (frL F fa fm fc).toArray 67)):=Zw;have HF:=DU (blk.new W (frL F fa fm fc) 67);have H0:=DU (h.below hb0);have HVA:Hid (∀ X,mx w0 M G f1 f3 nm C X->Calls Tp 148 #[frV F.e F.i F.r F.d fa fm fc] X fun o w'=>o = rT (bO vb)/\Bl X w'):=fun X hX=>by rw[<- hv];exact dU X F.e F.i F.r F.d fa fm fc F.l (hf.kpt (by obtain⟨_,_,q⟩:=hX;exact q.h.k))
 have HFT:Hid (∀ X,mx w0 M G f1 f3 nm C X->Calls Tp 184 #[pT (sQ ⟨M,0,nn⟩),I J 3] X fun o w'=>o = rT (.tuple #[])/\mx w0 M G f1 f3 nm (aS C 3) w'):=fun X hX=>hX.fault 3 ht hr hwf;have HFN:Hid (∀ X,mx w0 M G f1 f3 nm C X->Calls Tp 211 #[pT (sQ ⟨M,0,nn⟩),I J 2,frV F.e F.i F.r F.d fa fm fc] X fun o w'=>o = rT (.tuple #[])/\my w0 M G f3 nm (aw C 2 F) w'):=fun X hX=>GN hX 2 F fa fm fc hf hfm hc2 ht hr hwf;clear h hf ht hr hwf hb0 hv;go_enter func212,ntmps212;go_upto_region 1 with fail
 change Code.wp _ _ _ _ (W.alloc (.cells (frL F fa fm fc).toArray 67));generalize W.alloc (.cells (frL F fa fm fc).toArray 67)=V at *;go_wp2_with (refine ZG 67 HF.o.load underlying67 jc ?_);refine (HVA.o _ H0.o).mono ?_;rintro o w1 ⟨rfl,hb1⟩;have H1:=DU (qG (H0.o.below hb1) (HF.o.below hb1));clear hb1 H0 HF HVA;cases vb;case true=>
  go_wp2_with (refine ZG 67 H1.o.2.load underlying67 jc ?_);refine (HFN.o _ H1.o.1).mono ?_;rintro o w2 ⟨rfl,h2⟩;have H2:=DU h2;clear h2;go_wp2_with fail;refine bN ?_
  exact⟨rfl,H2.o⟩
 case false=>
  go_wp2_with fail;refine (HFT.o _ H1.o.1).mono ?_;rintro o w2 ⟨rfl,h2⟩;have H2:=DU h2;clear h2;go_wp2_with fail;refine bN ?_
  exact⟨rfl,f1,H2.o⟩
def KN (h:blk W M (mcS G C) 147):W.rangeAt M 17 [G.s 5,G.s 6,G.s 7,G.s 8,G.s 9]:=by
 have h':blk W M ((mcH G.P C++[G.s 0,G.s 1,G.s 2,G.s 3,G.s 4])++[G.s 5,G.s 6,G.s 7,G.s 8,G.s 9]++prL) 147:=by
  have e:mcS G C=(mcH G.P C++[G.s 0,G.s 1,G.s 2,G.s 3,G.s 4])++[G.s 5,G.s 6,G.s 7,G.s 8,G.s 9]++prL:=rfl;rwa [e] at h
 exact h'.loadAt _ _ _
def hrC (C:Co) (dv c:Int) (F:R5) (vb:Bool) (bit:Int):Co:=
 if (dv == 0 && bit == 1)=true then aS C 1
 else if (c == 1)=true then (if vb=true then aw C 2 F else aS C 3)
 else if (c == 2)=true then aw C 3 zF5
 else if (c == 6)=true then aw C 4 zF5
 else if (c == 3)=true then aS C 2
 else if (c == 4)=true then aS C 3
 else if (c == 5)=true then aS C 4
 else C
def Kt (h:mx w0 M G f1 f3 nm C W) (dv c bit:Int) (F:R5) (fa:Option Addr) (fm fc:Nat) (vb:Bool) (hv:vB F.e F.i F.r F.d fm=vb) (s0:G.s 0 = I J dv) (s4:G.s 4 = I J c) (s5:[G.s 5,G.s 6,G.s 7,G.s 8,G.s 9]=frL F fa fm fc) (hf:iB G.u fa fm fc F.l) (hfm:fm<=1048576) (hc2:C.ho.c2=0\/C.ho.c2=1) (ht:0<=C.te/\C.te<=256) (hr:0<=C.re/\C.re<=255) (hwf:∀ j (hj:j<C.ho.bx.length),(Lit.int .i64 C.ho.bx[j].y).wf=true) :
  Calls Tp 182 #[pT (sQ ⟨M,0,nn⟩),I J bit] W fun o w'=>o = rT (.tuple #[])/\my w0 M G f3 nm (hrC C dv c F vb bit) w':=by
 have H0:=DU h;have HFT:Hid (∀ k,Calls Tp 184 #[pT (sQ ⟨M,0,nn⟩),I J k] W fun o w'=>o = rT (.tuple #[])/\mx w0 M G f1 f3 nm (aS C k) w'):=fun k=>h.fault k ht hr hwf;have HFN:Hid (∀ k,Calls Tp 211 #[pT (sQ ⟨M,0,nn⟩),I J k,frV false 0 false 0 nn 0 0] W fun o w'=>o = rT (.tuple #[])/\my w0 M G f3 nm (aw C k zF5) w'):=fun k=>GN h k zF5 nn 0 0 (yM _) (nZ _) hc2 ht hr hwf;have HAC:=DU (JS h F fa fm fc vb hv hf hfm hc2 ht hr hwf);have HFR:=DU (KN h.m);rw[s5] at HFR;have y12:=h.m.cell 12 (G.s 0) rfl;have y16:=h.m.cell 16 (G.s 4) rfl;rw[s0] at y12;rw[s4] at y16;obtain⟨q0,e0⟩ : ∃ b,(dv == 0)=b:=⟨_,rfl⟩
 obtain⟨b1,e1⟩ : ∃ b,(bit == 1)=b:=⟨_,rfl⟩
 obtain⟨k1,g1⟩ : ∃ b,(c == 1)=b:=⟨_,rfl⟩
 obtain⟨k2,g2⟩ : ∃ b,(c == 2)=b:=⟨_,rfl⟩
 obtain⟨k6,g6⟩ : ∃ b,(c == 6)=b:=⟨_,rfl⟩
 obtain⟨k3,g3⟩ : ∃ b,(c == 3)=b:=⟨_,rfl⟩
 obtain⟨k4,g4⟩ : ∃ b,(c == 4)=b:=⟨_,rfl⟩
 obtain⟨k5,g5⟩ : ∃ b,(c == 5)=b:=⟨_,rfl⟩
 obtain⟨ov,eov⟩ : ∃ b,(q0 && b1)=b:=⟨_,rfl⟩
 have HSN:Hid (hrC C dv c F vb bit=if ov=true then aS C 1 else if k1=true then (if vb=true then aw C 2 F else aS C 3) else if k2=true then aw C 3 zF5 else if k6=true then aw C 4 zF5 else if k3=true then aS C 2 else if k4=true then aS C 3 else if k5=true then aS C 4 else C):=by
  show _=_;unfold hrC;rw[e0,e1,g1,g2,g6,g3,g4,g5,eov]
 clear h ht hr hwf s0 s4 s5 hf hv;go_enter func182,ntmps182;go_upto_region 0 with fail
 go_cut [13] (fun v wx=>v = bO ov/\wx=W);case first=>
  cases q0 <;> cases b1 <;> (
   go_wp2_with fail;go_meet
   case rel=>exact⟨by rw[<- eov];rfl,rfl⟩)
 case rest=>
 obtain⟨rfl,hw⟩:=hcut;have hw:=hw.symm;subst hw;clear eov e0 e1;cases ov;case true=>
  go_wp2_with fail;refine (HFT.o 1).mono ?_;rintro o w1 ⟨rfl,h1⟩;have H1:=DU h1;clear h1;go_wp2_with fail;refine bN ?_
  exact⟨rfl,_,by rw[HSN.o];exact H1.o⟩
 case false=>
 cases k1;case true=>
  go_wp2_with (refine ZG 67 HFR.o underlying67 jc ?_);refine HAC.o.mono ?_;rintro o w1 ⟨rfl,h1⟩;have H1:=DU h1;clear h1;go_wp2_with fail;refine bN ?_
  exact⟨rfl,by rw[HSN.o];exact H1.o⟩
 case false=>
 cases k2;case true=>
  go_wp2_with (refine ja rfl 67 _ rfl _ (by simp[go_sem]) _ (Gp _) ?_);refine (HFN.o 3).mono ?_;rintro o w1 ⟨rfl,h1⟩;have H1:=DU h1;clear h1;go_wp2_with fail;refine bN ?_
  exact⟨rfl,by rw[HSN.o];exact H1.o⟩
 case false=>
 cases k6;case true=>
  go_wp2_with (refine ja rfl 67 _ rfl _ (by simp[go_sem]) _ (Gp _) ?_);refine (HFN.o 4).mono ?_;rintro o w1 ⟨rfl,h1⟩;have H1:=DU h1;clear h1;go_wp2_with fail;refine bN ?_
  exact⟨rfl,by rw[HSN.o];exact H1.o⟩
 case false=>
 cases k3;case true=>
  go_wp2_with fail;refine (HFT.o 2).mono ?_;rintro o w1 ⟨rfl,h1⟩;have H1:=DU h1;clear h1;go_wp2_with fail;refine bN ?_
  exact⟨rfl,_,by rw[HSN.o];exact H1.o⟩
 case false=>
 cases k4;case true=>
  go_wp2_with fail;refine (HFT.o 3).mono ?_;rintro o w1 ⟨rfl,h1⟩;have H1:=DU h1;clear h1;go_wp2_with fail;refine bN ?_
  exact⟨rfl,_,by rw[HSN.o];exact H1.o⟩
 case false=>
 cases k5;case true=>
  go_wp2_with fail;refine (HFT.o 4).mono ?_;rintro o w1 ⟨rfl,h1⟩;have H1:=DU h1;clear h1;go_wp2_with fail;refine bN ?_
  exact⟨rfl,_,by rw[HSN.o];exact H1.o⟩
 case false=>
 go_wp2_with fail;refine bN ?_
 exact⟨rfl,f1,by rw[HSN.o];exact H0.o⟩
end
section
variable {w0 : World} {M : Nat} {G : Lg} {f1 f3 nm : Nat} {C : Co} {W : World}
def Hy (h:mx w0 M G f1 f3 nm C W) (bit:Int) (Q:World->Prop) (hs:C.tx=true->∀ X,mx w0 M G f1 f3 nm C X->Calls Tp 181 #[pT (sQ ⟨M,0,nn⟩),I J bit] X fun o w'=>o = rT (.tuple #[])/\Q w') (hh:C.tx=false->∀ X,mx w0 M G f1 f3 nm C X->Calls Tp 182 #[pT (sQ ⟨M,0,nn⟩),I J bit] X fun o w'=>o = rT (.tuple #[])/\Q w') :
  Calls Tp 141 #[pT (sQ ⟨M,0,nn⟩),I J bit] W fun o w'=>o = rT (.tuple #[])/\Q w':=by
 have y9:=h.m.cell 9 (bO C.tx) rfl;obtain⟨tx,etx⟩ : ∃ b,C.tx=b:=⟨_,rfl⟩
 have HS:=DU (fun e=>hs e W h);have HH:=DU (fun e=>hh e W h);rw[etx] at y9 HS HH;clear h hs hh etx;cases tx;all_goals
  go_enter func141,ntmps141;go_wp2_with fail;first | refine (HS.o pQ).mono ?_ | refine (HH.o pQ).mono ?_
  rintro o w1 ⟨rfl,h1⟩;have H1:=DU h1;clear h1;go_wp2_with fail;refine bN ?_
  exact⟨rfl,H1.o⟩
def Mo (Q:World->Prop) (Bx:Nat) (bit:Int) (yb:W.cell? ⟨Bx,0,nn⟩=sQ (I J bit)) (hc:Calls Tp 291 #[pT (sQ ⟨M,0,nn⟩),I J bit] W fun o w'=>o = rT (.tuple #[])/\Q w') :
  Calls Tp 290 #[pT (sQ ⟨M,0,nn⟩),pT (sQ ⟨Bx,0,nn⟩)] W fun o w'=>o = rT (.tuple #[])/\Q w':=by
 have HC:=DU hc;clear hc;go_enter func290,ntmps290;go_wp2_with fail;refine HC.o.mono ?_;rintro o w5 ⟨rfl,hq⟩;have HQ:=DU hq;clear hq;go_wp2_with fail;refine bN ?_
 exact⟨rfl,HQ.o⟩
def LW (h:mx w0 M G f1 f3 nm C W) (A:Co) (Bx:Nat) (bit:Int) (yb:W.cell? ⟨Bx,0,nn⟩=sQ (I J bit)) (hc:∀ X,mx w0 M G f1 f3 nm C X->Calls Tp 291 #[pT (sQ ⟨M,0,nn⟩),I J bit] X fun o w'=>o = rT (.tuple #[])/\my w0 M G f3 nm A w') :
  Calls Tp 289 #[pT (sQ ⟨M,0,nn⟩),.func (.func 290) #[] #[pT (sQ ⟨Bx,0,nn⟩)]] W fun o w'=>o = rT (.tuple #[])/\my w0 M G f3 nm (af C A) w':=by
 have HS:=DU h.state;have HC:Hid (∀ X,mx w0 M G f1 f3 nm C X->X.cell? ⟨Bx,0,nn⟩=sQ (I J bit)->Calls Tp 290 #[pT (sQ ⟨M,0,nn⟩),pT (sQ ⟨Bx,0,nn⟩)] X fun o w'=>o = rT (.tuple #[])/\my w0 M G f3 nm A w'):=fun X hX hy=>Mo _ Bx bit hy (hc X hX);have HYB:Hid (∀ X,Bl W X->X.cell? ⟨Bx,0,nn⟩=sQ (I J bit)):=fun X hX=>(hX.cell (by exact QC W _ yb)).trans yb;obtain⟨z0,ez0⟩ : ∃ z,stZ C.te C.re=z:=⟨_,rfl⟩
 obtain⟨z1,ez1⟩ : ∃ z,stZ A.te A.re=z:=⟨_,rfl⟩
 have HS2:Hid (∀ X f1,mx w0 M G f1 f3 nm A X->Calls Tp 216 #[pT (sQ ⟨M,0,nn⟩)] X fun o w'=>o = rT (I J z1)/\mx w0 M G f1 f3 nm A w'):=fun X f1 hX=>by rw[<- ez1];exact hX.state.mono fun o w' ⟨a,b,_⟩=>⟨a,b⟩
 obtain⟨b2,e2,_,f2⟩:=eqB z1 2;obtain⟨b7,e7,n7,f7⟩:=eqB A.p 7;have HA:Hid (af C A=tS (if (b2 && !b7)=true then vv A else A) z0):=by
  have h1:(A.te=256/\A.p≠7)↔(b2 && !b7)=true:=by
   have h2:b2=true↔A.te=256:=by
    rw[f2.o,<- ez1];unfold stZ;split
    .simp_all
    .split <;> simp_all
   rw[<- h2,ne_eq,<- f7.o];cases b2 <;> cases b7 <;> simp
  show _=_;unfold af;simp only[h1,ez0]
 rw[ez0] at HS;clear h hc ez0 ez1 f2 f7 yb;go_enter func289,ntmps289;go_wp2_with fail;refine HS.o.mono ?_;rintro o w1 ⟨rfl,h1,hb1⟩;have H1:=DU (qG h1 (HYB.o _ hb1));clear h1 hb1 HS;go_wp2_with fail;refine (HC.o _ H1.o.1 H1.o.2).mono ?_;rintro o w2 ⟨rfl,f1,h2⟩;have H2:=DU h2;clear h2 H1 HC;go_upto_region 2 with fail
 go_cut [24] (fun x wx=>x = bO (b2 && !b7)/\Hid (mx w0 M G f1 f3 nm A wx));case first=>
  cases b2 <;> cases b7 <;> (
   go_wp2_with fail;refine (HS2.o _ _ H2.o).mono ?_
   rintro o w3 ⟨rfl,h3⟩;have H3:=DU h3
   have y3:=h3.m.cell 3 (I J A.p) rfl
   clear h3;go_wp2_with fail;go_meet
   case rel=>exact⟨rfl,H3.o⟩)
 case rest=>
 obtain⟨rfl,H3⟩:=hcut;obtain⟨c,ec⟩ : ∃ c,(b2 && !b7)=c:=⟨_,rfl⟩
 rw[ec] at HA ⊢;clear ec e2 e7 n7 H2 HS2;go_upto_if 24 with fail
 go_cut [] (fun wx=>Hid (mx w0 M G f1 f3 nm (if c=true then vv A else A) wx));case first=>
  cases c
  .go_wp2_with fail;go_meet;case rel=>exact H3.o
  .go_wp2_with (refine Zs 137 #[I J 7,I J 0,I J 0,bO false,bO false,bO false,bO false,bO false,I J 0] (H3.o.m.there 3 9 (by rw[II];decide)) L3 (QK (by simp[Value.oneCell'])) ?_;generalize hW4:World.setCells _ M 3 _=w4;have H4:=MG hW4 H3.o.off;clear hW4)
   go_meet;case rel=>exact H4.o
 case rest=>
 have H5:=hcut;clear hcut H3;go_wp2_with fail;refine (H5.o.tell z0).mono ?_;rintro o w5 ⟨rfl,h6⟩;have H6:=DU h6;clear h6;go_wp2_with fail;refine bN ?_
 exact⟨rfl,f1,by rw[HA.o];exact H6.o⟩
def Jw (h:mx w0 M G f1 f3 nm C W) (A:Co) (bit:Int) (hc:∀ X,mx w0 M G f1 f3 nm C X->Calls Tp 291 #[pT (sQ ⟨M,0,nn⟩),I J bit] X fun o w'=>o = rT (.tuple #[])/\my w0 M G f3 nm A w') :
  Calls Tp 286 #[pT (sQ ⟨M,0,nn⟩),I J bit] W fun o w'=>o = rT (.tuple #[])/\my w0 M G f3 nm (af C A) w':=by
 have hb0:Bl W (W.alloc (.cells #[I J bit] 3)):=Zw;have HB:=DU (blk.new W [I J bit] 3);have HA:=DU (LW (h.below hb0) A W.heap.size bit (HB.o.cell 0 _ rfl) hc);clear h hc hb0;go_enter func286,ntmps286;go_wp2_with fail;refine HA.o.mono ?_;rintro o w5 ⟨rfl,hq⟩;have HQ:=DU hq;clear hq;go_wp2_with fail;refine bN ?_
 exact⟨rfl,HQ.o⟩
end
section
variable {W:World} {lvl vf c:Int} {vd la:Bool} {F:R5} {fa:Option Addr} {fm fc b:Nat}
def sgV (lvl vf:Int) (vd la:Bool) (c:Int) (F:R5) (fa:Option Addr) (fm fc:Nat):List Value:=[I J lvl,I J vf,bO vd,bO la,I J c,bO F.e,I .u32 (F.i:Int),bO F.r,I J F.d,sL fa fm fc]
def GJ:(Tp.info? 145).map (·.size)=sQ 10:=kr
def GG (lvl vf:Int) (vd la:Bool) (c:Int) (F:R5) (fa:Option Addr) (fm fc:Nat):(sgV lvl vf vd la c F fa fm fc).toArray.all (·.oneCell')=true:=QK (by simp[sgV,Value.oneCell'])
def Ma {p:Nat} (h:blk W p (sgV lvl vf vd la c F fa fm fc) 145):(loadVar 145 ⟨p,0,nn⟩).run Tp W = .ok (aG (sgV lvl vf vd la c F fa fm fc).toArray) W:=QI (P:=Tp) W p 0 145 _ _ h.load underlying145 rfl GJ
def JV (h:blk W b sgL 145):blk (W.setCells b 0 (sgV lvl vf vd la c F fa fm fc)) b (sgV lvl vf vd la c F fa fm fc) 145:=by
 have:=blk.put [] sgL [] (sgV lvl vf vd la c F fa fm fc) (w:=W) (b:=b) (T:=145) (by simpa using h) rfl;simpa using this
def iB.at_ {W':World} {a:Option Addr} {n c:Nat} {l:List Nat} (h:iB W a n c l) (hk:l≠[]->∀ g,a=sQ g->W'.heap[g.block]?=W.heap[g.block]?):iB W' a n c l:=by
 refine⟨h.len,h.cap,h.small,fun hl=>?_⟩;obtain⟨g,off,ha,hc⟩:=h.cells hl;refine⟨g,off,ha,fun j hj=>?_⟩;have h1:=hc j hj;have h2:=hk hl _ ha;rw[<- h1];simp only[World.cell?];rw[show W'.heap[g]?=W.heap[g]? from h2]
def Kn (W:World) (M R P:Nat) (hd more E:ByteArray) (vc vf:Nat) (vd vo la:Bool) (lvl:Int) (hR:blk W R [pT (sQ ⟨M,0,nn⟩),.string hd] 95) (hj:∀ W,Calls Tp 92 #[.string hd] W fun o w'=>o = rT (aG #[I J (vc:Int),I J (vf:Int),bO vd,bO vo])/\Bl W w')
  (hl:∀ X,Bl W X->Calls Tp 287 #[pT (sQ ⟨R,0,nn⟩)] X fun o w'=>o = rT (I J lvl)/\Bl X w') (y9:W.cell? ⟨M,9,nn⟩=sQ (bO true)) (x0:W.cell? ⟨M,0,nn⟩=sQ (pT (sQ ⟨P,0,nn⟩)))
  (hE:∀ X,Bl W X->Calls Tp 89 #[pT (sQ ⟨P,0,nn⟩)] X fun o w1=>∃ v,o = rT v/\Bl X w1/\Calls Tp 88 #[v] w1 fun o w2=>o = rT (.string E)/\Bl w1 w2) (hla:((more.size:Int) == (E.size:Int))=la) :
  Calls Tp 285 #[pT (sQ ⟨R,0,nn⟩),.string more] W fun o w'=>o = rT (aG (sgV lvl vf vd la 0 zF5 nn 0 0).toArray)/\Bl W w':=by
 have HE:=ah hE;clear hE;have HJ:=ah hj;have HL:=ah hl;have HC:Hid (∀ V,Bl W V->V.cell? ⟨R,0,nn⟩=sQ (pT (sQ ⟨M,0,nn⟩))/\V.cell? ⟨R,1,nn⟩=sQ (.string hd)/\V.cell? ⟨M,9,nn⟩=sQ (bO true)/\V.cell? ⟨M,0,nn⟩=sQ (pT (sQ ⟨P,0,nn⟩))):=fun V hV=>
  have c:=fun (p:Addr) (v:Value) (h:W.cell? p=sQ v)=>(hV.cell (QC W _ h)).trans h
  ⟨c _ _ (hR.cell 0 _ rfl),c _ _ (hR.cell 1 _ rfl),c _ _ y9,c _ _ x0⟩
 have H0:Hid (blk (W.alloc (.cells sgL.toArray 145)) W.heap.size sgL 145/\Bl W (W.alloc (.cells sgL.toArray 145))):=⟨blk.new W _ 145,Zw⟩
 clear hj hl hR y9 x0;go_enter func285,ntmps285;go_upto_region 1 with fail
 change Code.wp _ _ _ _ (W.alloc (.cells sgL.toArray 145));generalize W.alloc (.cells sgL.toArray 145)=V0 at *;go_cut [5] (fun v wx=>∃ vb,v = pT (sQ ⟨vb,0,nn⟩)/\Hid (W.heap.size<vb/\blk wx vb [I J (vc:Int),I J (vf:Int),bO vd,bO vo] 57/\blk wx W.heap.size sgL 145/\Bl W wx));case first=>
  have y1:=(HC.o _ H0.o.2).2.1;go_wp2_with fail;refine (HJ.o _).mono ?_;rintro o w2 ⟨rfl,hb2⟩;have H2:Hid (blk w2 W.heap.size sgL 145/\Bl W w2/\blk (w2.alloc (.cells [I J 0,I J 0,bO false,bO false].toArray 57)) w2.heap.size [I J 0,I J 0,bO false,bO false] 57):=⟨H0.o.1.below hb2,H0.o.2.trans (hb2.mono H0.o.2.size),blk.new w2 _ 57⟩
  clear hb2;go_wp2_with (refine Zs 57 [I J (vc:Int),I J (vf:Int),bO vd,bO vo].toArray (H2.o.2.2.there 0 4 pQ) kr (QK (by simp[Value.oneCell'])) ?_;generalize hW3:World.setCells _ w2.heap.size 0 _=w3;have HW3:Hid (_=w3):=hW3;clear hW3);go_meet;case rel=>
   have e:(w2.alloc (.cells [I J 0,I J 0,bO false,bO false].toArray 57)).setCells w2.heap.size 0 [I J (vc:Int),I J (vf:Int),bO vd,bO vo]=w3:=HW3.o;have hlt:=H2.o.1.lt;have hb:Bl w2 w3:=by rw[<- e];exact sW (nR _) 0 _ Zw
   refine⟨_,rfl,hlt,?_,H2.o.1.below hb,H2.o.2.1.trans (hb.mono H2.o.2.1.size)⟩;rw[<- e];have:=blk.put [] [I J 0,I J 0,bO false,bO false] [] [I J (vc:Int),I J (vf:Int),bO vd,bO vo] (w:=w2.alloc (.cells [I J 0,I J 0,bO false,bO false].toArray 57)) (b:=w2.heap.size) (T:=57) (by simpa using H2.o.2.2) rfl;simpa using this
 case rest=>
 obtain⟨vb,rfl,H1⟩:=hcut;clear H0 HJ;go_upto_region 2 with fail
 go_cut [6] (fun v wx=>∃ sb,v = pT (sQ ⟨sb,0,nn⟩)/\Hid (W.heap.size<sb/\blk wx sb (sgV lvl vf vd false 0 zF5 nn 0 0) 145/\blk wx W.heap.size sgL 145/\Bl W wx));case first=>
  refine QJ (S:=fun X=>blk X vb [I J (vc:Int),I J (vf:Int),bO vd,bO vo] 57/\blk X W.heap.size sgL 145/\Bl W X) kr ?_;have hd0:Bl wc (World.drew wc):=(bW _ _).drew;have hS:(fun X=>blk X vb [I J (vc:Int),I J (vf:Int),bO vd,bO vo] 57/\blk X W.heap.size sgL 145/\Bl W X) (World.drew wc):=⟨H1.o.2.1.below hd0,H1.o.2.2.1.below hd0,H1.o.2.2.2.drew⟩
  clear H1 hd0;change wpAnyH Tp _ _ _ _ _ _ _ (World.drew wc);generalize World.drew wc=v0 at *;refine tk 0 ?_;refine tk 2 ?_;refine tk 3 ?_ (hy:=fun X hX=>by (have y:=hX.1.cell 1 (I J (vf:Int)) rfl;go_simp;try rfl));refine tk 4 ?_;refine tk 5 ?_ (hy:=fun X hX=>by (have y:=hX.1.cell 2 (bO vd) rfl;go_simp;try rfl));refine QF (rs:=[1,7]) kr pQ ?_;refine Q8 rfl (fun K2 hK2=>?_) (Q8 rfl (fun K2 hK2=>?_) Q9)
  .go_simp;refine (HL.o _ hS.2.2).mono ?_;rintro y v1 ⟨rfl,b1⟩;have hS1:(fun X=>blk X vb [I J (vc:Int),I J (vf:Int),bO vd,bO vo] 57/\blk X W.heap.size sgL 145/\Bl W X) v1:=⟨hS.1.below b1,hS.2.1.below b1,hS.2.2.trans (b1.mono hS.2.2.size)⟩
   go_wp2_with fail;refine hK2.out _ _ hS1 (fun _=>?_);clear hS hK2 K2 b1;have hS:=hS1;clear hS1;refine tk 6 ?_ (v:=aG (sgV lvl vf vd false 0 zF5 nn 0 0).toArray) (hy:=fun X hX=>by (go_simp;try rfl));refine al 7 fun K2 hK2=>?_;go_simp;have hq:blk (v1.alloc (.cells sgL.toArray 145)) v1.heap.size sgL 145:=blk.new v1 sgL 145;have hq1:Bl v1 (v1.alloc (.cells sgL.toArray 145)):=Zw;have hS1:(fun X=>blk X vb [I J (vc:Int),I J (vf:Int),bO vd,bO vo] 57/\blk X W.heap.size sgL 145/\Bl W X) (v1.alloc (.cells sgL.toArray 145)):=⟨hS.1.below hq1,hS.2.1.below hq1,hS.2.2.trans (hq1.mono hS.2.2.size)⟩
   have hlt:=hS.2.1.lt;refine hK2.out _ _ hS1 (fun _=>?_);clear hS hK2 K2 hq1;have hS:=hS1;clear hS1;change wpAnyH Tp _ _ _ _ _ _ _ (v1.alloc (.cells sgL.toArray 145));generalize v1.alloc (.cells sgL.toArray 145)=v2 at *;generalize v1.heap.size=sb at *;refine al 8 fun K2 hK2=>?_;rw[qc (by rfl)];refine QT (P:=Tp) 145 (.tmp 6) (.tmp 18) rfl sb 0 (sgV lvl vf vd false 0 zF5 nn 0 0).toArray rfl rfl (hq.there 0 10 (nR _)) GJ (GG ..) ?_;have hF6:blk (World.setCells v2 sb 0 (sgV lvl vf vd false 0 zF5 nn 0 0)) sb (sgV lvl vf vd false 0 zF5 nn 0 0) 145:=by
    have:=blk.put [] sgL [] (sgV lvl vf vd false 0 zF5 nn 0 0) (w:=v2) (b:=sb) (T:=145) (by simpa using hq) rfl;simpa using this
   have hbS:∀ q,q≠sb->(World.setCells v2 sb 0 (sgV lvl vf vd false 0 zF5 nn 0 0)).heap[q]?=v2.heap[q]?:=fun q hq=>sO _ q hq _ _ _;have hS6:(fun X=>blk X vb [I J (vc:Int),I J (vf:Int),bO vd,bO vo] 57/\blk X W.heap.size sgL 145/\Bl W X) (World.setCells v2 sb 0 (sgV lvl vf vd false 0 zF5 nn 0 0)):=⟨hS.1.kept (hbS _ (fun e=>by rw[<- e] at hq;have:=hq.symm.trans hS.1;simp[sgL] at this)),hS.2.1.kept (hbS _ om),sW (qA hlt) 0 _ hS.2.2⟩
   refine hK2.out _ _ hS6 (fun _=>?_);refine QH kr ?_ _;go_wp2_with fail;go_meet;case rel=>exact⟨sb,rfl,hlt,hF6,hS6.2⟩
  .go_simp;have hq:blk (v0.alloc (.cells sgL.toArray 145)) v0.heap.size sgL 145:=blk.new v0 sgL 145;have hq1:Bl v0 (v0.alloc (.cells sgL.toArray 145)):=Zw;have hS1:(fun X=>blk X vb [I J (vc:Int),I J (vf:Int),bO vd,bO vo] 57/\blk X W.heap.size sgL 145/\Bl W X) (v0.alloc (.cells sgL.toArray 145)):=⟨hS.1.below hq1,hS.2.1.below hq1,hS.2.2.trans (hq1.mono hS.2.2.size)⟩
   have hlt:=hS.2.1.lt;refine hK2.out _ _ hS1 (fun _=>?_);clear hS hK2 K2 hq1;have hS:=hS1;clear hS1;change wpAnyH Tp _ _ _ _ _ _ _ (v0.alloc (.cells sgL.toArray 145));generalize v0.alloc (.cells sgL.toArray 145)=v1 at *;generalize v0.heap.size=sb at *;refine al 1 fun K2 hK2=>?_;go_simp;refine (HL.o _ hS.2.2).mono ?_;rintro y v2 ⟨rfl,b1⟩;have hS1:(fun X=>blk X vb [I J (vc:Int),I J (vf:Int),bO vd,bO vo] 57/\blk X W.heap.size sgL 145/\Bl W X) v2:=⟨hS.1.below b1,hS.2.1.below b1,hS.2.2.trans (b1.mono hS.2.2.size)⟩
   have hq:=hq.below b1;go_wp2_with fail;refine hK2.out _ _ hS1 (fun _=>?_);clear hS hK2 K2 b1;have hS:=hS1;clear hS1;refine tk 6 ?_ (v:=aG (sgV lvl vf vd false 0 zF5 nn 0 0).toArray) (hy:=fun X hX=>by (go_simp;try rfl));refine al 8 fun K2 hK2=>?_;rw[qc (by rfl)];refine QT (P:=Tp) 145 (.tmp 6) (.tmp 18) rfl sb 0 (sgV lvl vf vd false 0 zF5 nn 0 0).toArray rfl rfl (hq.there 0 10 (nR _)) GJ (GG ..) ?_;have hF6:blk (World.setCells v2 sb 0 (sgV lvl vf vd false 0 zF5 nn 0 0)) sb (sgV lvl vf vd false 0 zF5 nn 0 0) 145:=by
    have:=blk.put [] sgL [] (sgV lvl vf vd false 0 zF5 nn 0 0) (w:=v2) (b:=sb) (T:=145) (by simpa using hq) rfl;simpa using this
   have hbS:∀ q,q≠sb->(World.setCells v2 sb 0 (sgV lvl vf vd false 0 zF5 nn 0 0)).heap[q]?=v2.heap[q]?:=fun q hq=>sO _ q hq _ _ _;have hS6:(fun X=>blk X vb [I J (vc:Int),I J (vf:Int),bO vd,bO vo] 57/\blk X W.heap.size sgL 145/\Bl W X) (World.setCells v2 sb 0 (sgV lvl vf vd false 0 zF5 nn 0 0)):=⟨hS.1.kept (hbS _ (fun e=>by rw[<- e] at hq;have:=hq.symm.trans hS.1;simp[sgL] at this)),hS.2.1.kept (hbS _ om),sW (qA hlt) 0 _ hS.2.2⟩
   refine hK2.out _ _ hS6 (fun _=>?_);refine QH kr ?_ _;go_wp2_with fail;go_meet;case rel=>exact⟨sb,rfl,hlt,hF6,hS6.2⟩
 case rest=>
 obtain⟨sb,rfl,H2⟩:=hcut;clear H1 HL;have c:=HC.o _ H2.o.2.2.2;have c0:=c.1;have c9:=c.2.2.1;have cP:=c.2.2.2;clear c;go_wp2_with fail;refine (HE.o _ H2.o.2.2.2).mono ?_;rintro o w3 ⟨v,rfl,b3,hq⟩;have H3:=ah (qG (H2.o.2.1.below b3) (qG (H2.o.2.2.1.below b3) (H2.o.2.2.2.trans (b3.mono H2.o.2.2.2.size))));have HQ:=ah hq;have HLT:=ah H2.o.1;clear b3 hq H2;go_wp2_with fail;refine HQ.o.mono ?_;rintro o w4 ⟨rfl,b4⟩;have H4:=ah (qG (H3.o.1.below b4) (qG (H3.o.2.1.below b4) (H3.o.2.2.trans (b4.mono H3.o.2.2.size))));have z3:=H4.o.1.free 3;have u3:=H4.o.1.cell 3 (bO false) rfl;clear b4 H3 HQ;go_upto_region 5 with fail
 have H5:Hid (blk (w4.setCell ⟨sb,3,nn⟩ (bO la)) sb (sgV lvl vf vd la 0 zF5 nn 0 0) 145/\blk (w4.setCell ⟨sb,3,nn⟩ (bO la)) W.heap.size sgL 145/\Bl W (w4.setCell ⟨sb,3,nn⟩ (bO la))):=⟨H4.o.1.set 3 (bO la),H4.o.2.1.kept (QA _ _ _ _ (by show W.heap.size≠sb;have:=HLT.o;omega)),H4.o.2.2.setCell (by show W.heap.size<=sb;have:=HLT.o;omega) _⟩
 generalize w4.setCell ⟨sb,3,nn⟩ (bO la)=w5 at *;clear H4 z3 u3;go_wp2_with (first
  | (refine ZG 145 H5.o.1.load underlying145 GJ ?_)
  | (refine Zs 145 (sgV lvl vf vd la 0 zF5 nn 0 0).toArray (H5.o.2.1.there 0 10 (nR _)) GJ (GG ..) ?_;have H6:Hid (_/\_):=⟨JV (lvl:=lvl) (vf:=vf) (vd:=vd) (la:=la) (c:=0) (F:=zF5) (fa:=nn) (fm:=0) (fc:=0) H5.o.2.1,sW (nR _) 0 (sgV lvl vf vd la 0 zF5 nn 0 0) H5.o.2.2⟩;generalize World.setCells w5 W.heap.size 0 _=w6 at *))
 exact bC results285 (Ma H6.o.1) ⟨rfl,H6.o.2⟩
def MB {F0:R5} {fa0:Option Addr} {fm0 fc0:Nat} (h:blk W b (sgV lvl vf vd la c F0 fa0 fm0 fc0) 145):blk (W.setCells b 5 (frL F fa fm fc)) b (sgV lvl vf vd la c F fa fm fc) 145:=by
 have e:sgV lvl vf vd la c F0 fa0 fm0 fc0=[I J lvl,I J vf,bO vd,bO la,I J c]++frL F0 fa0 fm0 fc0++[]:=rfl;rw[e] at h;exact h.put _ _ _ (frL F fa fm fc) rfl
def Ko (W:World) (M R P:Nat) (hd more:ByteArray) (vc vf:Nat) (vd vo:Bool) (lvl c:Int) (F:R5) (hR:blk W R [pT (sQ ⟨M,0,nn⟩),.string hd] 95) (hj:∀ W,Calls Tp 92 #[.string hd] W fun o w'=>o = rT (aG #[I J (vc:Int),I J (vf:Int),bO vd,bO vo])/\Bl W w')
  (hl:∀ X,Bl W X->Calls Tp 287 #[pT (sQ ⟨R,0,nn⟩)] X fun o w'=>o = rT (I J lvl)/\Bl X w') (y9:W.cell? ⟨M,9,nn⟩=sQ (bO false)) (x0:W.cell? ⟨M,0,nn⟩=sQ (pT (sQ ⟨P,0,nn⟩)))
  (hD:∀ X,Calls Tp 288 #[.string more] X fun o w'=>∃ fa fc,o = rT (.tuple #[frV F.e F.i F.r F.d fa F.l.length fc,I J c])/\(iB w' fa F.l.length fc F.l/\(F.l≠[]->∀ g,fa=sQ g->X.heap.size<=g.block))/\Bl X w') :
  Calls Tp 285 #[pT (sQ ⟨R,0,nn⟩),.string more] W fun o w'=>∃ fa fc,o = rT (aG (sgV lvl vf vd false c F fa F.l.length fc).toArray)/\(iB w' fa F.l.length fc F.l/\(F.l≠[]->∀ g,fa=sQ g->W.heap.size<=g.block))/\Bl W w':=by
 have HD:=ah hD;clear hD;have HJ:=ah hj;have HL:=ah hl;have HC:Hid (∀ V,Bl W V->V.cell? ⟨R,0,nn⟩=sQ (pT (sQ ⟨M,0,nn⟩))/\V.cell? ⟨R,1,nn⟩=sQ (.string hd)/\V.cell? ⟨M,9,nn⟩=sQ (bO false)/\V.cell? ⟨M,0,nn⟩=sQ (pT (sQ ⟨P,0,nn⟩))):=fun V hV=>
  have c:=fun (p:Addr) (v:Value) (h:W.cell? p=sQ v)=>(hV.cell (QC W _ h)).trans h
  ⟨c _ _ (hR.cell 0 _ rfl),c _ _ (hR.cell 1 _ rfl),c _ _ y9,c _ _ x0⟩
 have H0:Hid (blk (W.alloc (.cells sgL.toArray 145)) W.heap.size sgL 145/\Bl W (W.alloc (.cells sgL.toArray 145))):=⟨blk.new W _ 145,Zw⟩
 clear hj hl hR y9 x0;go_enter func285,ntmps285;go_upto_region 1 with fail
 change Code.wp _ _ _ _ (W.alloc (.cells sgL.toArray 145));generalize W.alloc (.cells sgL.toArray 145)=V0 at *;go_cut [5] (fun v wx=>∃ vb,v = pT (sQ ⟨vb,0,nn⟩)/\Hid (W.heap.size<vb/\blk wx vb [I J (vc:Int),I J (vf:Int),bO vd,bO vo] 57/\blk wx W.heap.size sgL 145/\Bl W wx));case first=>
  have y1:=(HC.o _ H0.o.2).2.1;go_wp2_with fail;refine (HJ.o _).mono ?_;rintro o w2 ⟨rfl,hb2⟩;have H2:Hid (blk w2 W.heap.size sgL 145/\Bl W w2/\blk (w2.alloc (.cells [I J 0,I J 0,bO false,bO false].toArray 57)) w2.heap.size [I J 0,I J 0,bO false,bO false] 57):=⟨H0.o.1.below hb2,H0.o.2.trans (hb2.mono H0.o.2.size),blk.new w2 _ 57⟩
  clear hb2;go_wp2_with (refine Zs 57 [I J (vc:Int),I J (vf:Int),bO vd,bO vo].toArray (H2.o.2.2.there 0 4 pQ) kr (QK (by simp[Value.oneCell'])) ?_;generalize hW3:World.setCells _ w2.heap.size 0 _=w3;have HW3:Hid (_=w3):=hW3;clear hW3);go_meet;case rel=>
   have e:(w2.alloc (.cells [I J 0,I J 0,bO false,bO false].toArray 57)).setCells w2.heap.size 0 [I J (vc:Int),I J (vf:Int),bO vd,bO vo]=w3:=HW3.o;have hlt:=H2.o.1.lt;have hb:Bl w2 w3:=by rw[<- e];exact sW (nR _) 0 _ Zw
   refine⟨_,rfl,hlt,?_,H2.o.1.below hb,H2.o.2.1.trans (hb.mono H2.o.2.1.size)⟩;rw[<- e];have:=blk.put [] [I J 0,I J 0,bO false,bO false] [] [I J (vc:Int),I J (vf:Int),bO vd,bO vo] (w:=w2.alloc (.cells [I J 0,I J 0,bO false,bO false].toArray 57)) (b:=w2.heap.size) (T:=57) (by simpa using H2.o.2.2) rfl;simpa using this
 case rest=>
 obtain⟨vb,rfl,H1⟩:=hcut;clear H0 HJ;go_upto_region 2 with fail
 go_cut [6] (fun v wx=>∃ sb,v = pT (sQ ⟨sb,0,nn⟩)/\Hid (W.heap.size<sb/\blk wx sb (sgV lvl vf vd false 0 zF5 nn 0 0) 145/\blk wx W.heap.size sgL 145/\Bl W wx));case first=>
  refine QJ (S:=fun X=>blk X vb [I J (vc:Int),I J (vf:Int),bO vd,bO vo] 57/\blk X W.heap.size sgL 145/\Bl W X) kr ?_;have hd0:Bl wc (World.drew wc):=(bW _ _).drew;have hS:(fun X=>blk X vb [I J (vc:Int),I J (vf:Int),bO vd,bO vo] 57/\blk X W.heap.size sgL 145/\Bl W X) (World.drew wc):=⟨H1.o.2.1.below hd0,H1.o.2.2.1.below hd0,H1.o.2.2.2.drew⟩
  clear H1 hd0;change wpAnyH Tp _ _ _ _ _ _ _ (World.drew wc);generalize World.drew wc=v0 at *;refine tk 0 ?_;refine tk 2 ?_;refine tk 3 ?_ (hy:=fun X hX=>by (have y:=hX.1.cell 1 (I J (vf:Int)) rfl;go_simp;try rfl));refine tk 4 ?_;refine tk 5 ?_ (hy:=fun X hX=>by (have y:=hX.1.cell 2 (bO vd) rfl;go_simp;try rfl));refine QF (rs:=[1,7]) kr pQ ?_;refine Q8 rfl (fun K2 hK2=>?_) (Q8 rfl (fun K2 hK2=>?_) Q9)
  .go_simp;refine (HL.o _ hS.2.2).mono ?_;rintro y v1 ⟨rfl,b1⟩;have hS1:(fun X=>blk X vb [I J (vc:Int),I J (vf:Int),bO vd,bO vo] 57/\blk X W.heap.size sgL 145/\Bl W X) v1:=⟨hS.1.below b1,hS.2.1.below b1,hS.2.2.trans (b1.mono hS.2.2.size)⟩
   go_wp2_with fail;refine hK2.out _ _ hS1 (fun _=>?_);clear hS hK2 K2 b1;have hS:=hS1;clear hS1;refine tk 6 ?_ (v:=aG (sgV lvl vf vd false 0 zF5 nn 0 0).toArray) (hy:=fun X hX=>by (go_simp;try rfl));refine al 7 fun K2 hK2=>?_;go_simp;have hq:blk (v1.alloc (.cells sgL.toArray 145)) v1.heap.size sgL 145:=blk.new v1 sgL 145;have hq1:Bl v1 (v1.alloc (.cells sgL.toArray 145)):=Zw;have hS1:(fun X=>blk X vb [I J (vc:Int),I J (vf:Int),bO vd,bO vo] 57/\blk X W.heap.size sgL 145/\Bl W X) (v1.alloc (.cells sgL.toArray 145)):=⟨hS.1.below hq1,hS.2.1.below hq1,hS.2.2.trans (hq1.mono hS.2.2.size)⟩
   have hlt:=hS.2.1.lt;refine hK2.out _ _ hS1 (fun _=>?_);clear hS hK2 K2 hq1;have hS:=hS1;clear hS1;change wpAnyH Tp _ _ _ _ _ _ _ (v1.alloc (.cells sgL.toArray 145));generalize v1.alloc (.cells sgL.toArray 145)=v2 at *;generalize v1.heap.size=sb at *;refine al 8 fun K2 hK2=>?_;rw[qc (by rfl)];refine QT (P:=Tp) 145 (.tmp 6) (.tmp 18) rfl sb 0 (sgV lvl vf vd false 0 zF5 nn 0 0).toArray rfl rfl (hq.there 0 10 (nR _)) GJ (GG ..) ?_;have hF6:blk (World.setCells v2 sb 0 (sgV lvl vf vd false 0 zF5 nn 0 0)) sb (sgV lvl vf vd false 0 zF5 nn 0 0) 145:=by
    have:=blk.put [] sgL [] (sgV lvl vf vd false 0 zF5 nn 0 0) (w:=v2) (b:=sb) (T:=145) (by simpa using hq) rfl;simpa using this
   have hbS:∀ q,q≠sb->(World.setCells v2 sb 0 (sgV lvl vf vd false 0 zF5 nn 0 0)).heap[q]?=v2.heap[q]?:=fun q hq=>sO _ q hq _ _ _;have hS6:(fun X=>blk X vb [I J (vc:Int),I J (vf:Int),bO vd,bO vo] 57/\blk X W.heap.size sgL 145/\Bl W X) (World.setCells v2 sb 0 (sgV lvl vf vd false 0 zF5 nn 0 0)):=⟨hS.1.kept (hbS _ (fun e=>by rw[<- e] at hq;have:=hq.symm.trans hS.1;simp[sgL] at this)),hS.2.1.kept (hbS _ om),sW (qA hlt) 0 _ hS.2.2⟩
   refine hK2.out _ _ hS6 (fun _=>?_);refine QH kr ?_ _;go_wp2_with fail;go_meet;case rel=>exact⟨sb,rfl,hlt,hF6,hS6.2⟩
  .go_simp;have hq:blk (v0.alloc (.cells sgL.toArray 145)) v0.heap.size sgL 145:=blk.new v0 sgL 145;have hq1:Bl v0 (v0.alloc (.cells sgL.toArray 145)):=Zw;have hS1:(fun X=>blk X vb [I J (vc:Int),I J (vf:Int),bO vd,bO vo] 57/\blk X W.heap.size sgL 145/\Bl W X) (v0.alloc (.cells sgL.toArray 145)):=⟨hS.1.below hq1,hS.2.1.below hq1,hS.2.2.trans (hq1.mono hS.2.2.size)⟩
   have hlt:=hS.2.1.lt;refine hK2.out _ _ hS1 (fun _=>?_);clear hS hK2 K2 hq1;have hS:=hS1;clear hS1;change wpAnyH Tp _ _ _ _ _ _ _ (v0.alloc (.cells sgL.toArray 145));generalize v0.alloc (.cells sgL.toArray 145)=v1 at *;generalize v0.heap.size=sb at *;refine al 1 fun K2 hK2=>?_;go_simp;refine (HL.o _ hS.2.2).mono ?_;rintro y v2 ⟨rfl,b1⟩;have hS1:(fun X=>blk X vb [I J (vc:Int),I J (vf:Int),bO vd,bO vo] 57/\blk X W.heap.size sgL 145/\Bl W X) v2:=⟨hS.1.below b1,hS.2.1.below b1,hS.2.2.trans (b1.mono hS.2.2.size)⟩
   have hq:=hq.below b1;go_wp2_with fail;refine hK2.out _ _ hS1 (fun _=>?_);clear hS hK2 K2 b1;have hS:=hS1;clear hS1;refine tk 6 ?_ (v:=aG (sgV lvl vf vd false 0 zF5 nn 0 0).toArray) (hy:=fun X hX=>by (go_simp;try rfl));refine al 8 fun K2 hK2=>?_;rw[qc (by rfl)];refine QT (P:=Tp) 145 (.tmp 6) (.tmp 18) rfl sb 0 (sgV lvl vf vd false 0 zF5 nn 0 0).toArray rfl rfl (hq.there 0 10 (nR _)) GJ (GG ..) ?_;have hF6:blk (World.setCells v2 sb 0 (sgV lvl vf vd false 0 zF5 nn 0 0)) sb (sgV lvl vf vd false 0 zF5 nn 0 0) 145:=by
    have:=blk.put [] sgL [] (sgV lvl vf vd false 0 zF5 nn 0 0) (w:=v2) (b:=sb) (T:=145) (by simpa using hq) rfl;simpa using this
   have hbS:∀ q,q≠sb->(World.setCells v2 sb 0 (sgV lvl vf vd false 0 zF5 nn 0 0)).heap[q]?=v2.heap[q]?:=fun q hq=>sO _ q hq _ _ _;have hS6:(fun X=>blk X vb [I J (vc:Int),I J (vf:Int),bO vd,bO vo] 57/\blk X W.heap.size sgL 145/\Bl W X) (World.setCells v2 sb 0 (sgV lvl vf vd false 0 zF5 nn 0 0)):=⟨hS.1.kept (hbS _ (fun e=>by rw[<- e] at hq;have:=hq.symm.trans hS.1;simp[sgL] at this)),hS.2.1.kept (hbS _ om),sW (qA hlt) 0 _ hS.2.2⟩
   refine hK2.out _ _ hS6 (fun _=>?_);refine QH kr ?_ _;go_wp2_with fail;go_meet;case rel=>exact⟨sb,rfl,hlt,hF6,hS6.2⟩
 case rest=>
 obtain⟨sb,rfl,H2⟩:=hcut;clear H1 HL;have c:=HC.o _ H2.o.2.2.2;have c0:=c.1;have c9:=c.2.2.1;have cP:=c.2.2.2;clear c;go_wp2_with fail;refine (HD.o _).mono ?_;rintro o w4 ⟨fa,fc,rfl,⟨q1,q2⟩,b4⟩;have H4:=ah (qG (H2.o.2.1.below b4) (qG (H2.o.2.2.1.below b4) (H2.o.2.2.2.trans (b4.mono H2.o.2.2.2.size))));have HLT:=ah H2.o.1;have HQ:Hid (iB w4 fa F.l.length fc F.l/\(F.l≠[]->∀ g,fa=sQ g->W.heap.size<g.block/\sb<g.block)):=⟨q1,fun hl g hg=>by have a:=q2 hl g hg;have b:=H2.o.2.1.lt;have d:=H2.o.2.2.1.lt;omega⟩
 clear b4 H2 q1 q2;go_upto_region 7 with (refine Zs 67 (frL F fa F.l.length fc).toArray (H4.o.1.there 5 5 (nR _)) kr (QK (by simp[Value.oneCell'])) ?_;have H5:Hid (blk (World.setCells w4 sb 5 (frL F fa F.l.length fc)) sb (sgV lvl vf vd false 0 F fa F.l.length fc) 145/\(∀ q,q≠sb->(World.setCells w4 sb 5 (frL F fa F.l.length fc)).heap[q]?=w4.heap[q]?)/\Bl W (World.setCells w4 sb 5 (frL F fa F.l.length fc))):=⟨MB H4.o.1,fun q hq=>sO _ q hq _ _ _,sW (qA HLT.o) 5 _ H4.o.2.2⟩;generalize World.setCells w4 sb 5 (frL F fa F.l.length fc)=w5 at *;have z4:=H5.o.1.free 4;have u4:=H5.o.1.cell 4 (I J 0) rfl)
 have H7:Hid (blk (w5.setCell ⟨sb,4,nn⟩ (I J c)) sb (sgV lvl vf vd false c F fa F.l.length fc) 145/\blk (w5.setCell ⟨sb,4,nn⟩ (I J c)) W.heap.size sgL 145/\Bl W (w5.setCell ⟨sb,4,nn⟩ (I J c))/\(∀ q,q≠sb->(w5.setCell ⟨sb,4,nn⟩ (I J c)).heap[q]?=w4.heap[q]?)):=by
  have hne:W.heap.size≠sb:=by have:=HLT.o;omega
  have ho:∀ q,q≠sb->(w5.setCell ⟨sb,4,nn⟩ (I J c)).heap[q]?=w4.heap[q]?:=fun q hq=>(QA _ _ _ _ (by exact hq)).trans (H5.o.2.1 q hq);exact⟨H5.o.1.set 4 (I J c),H4.o.2.1.kept (ho _ hne),H5.o.2.2.setCell (by show W.heap.size<=sb;have:=HLT.o;omega) _,ho⟩
 generalize w5.setCell ⟨sb,4,nn⟩ (I J c)=w7 at *;clear H4 H5 z4 u4;go_wp2_with (first
  | (refine ZG 145 H7.o.1.load underlying145 GJ ?_)
  | (refine Zs 145 (sgV lvl vf vd false c F fa F.l.length fc).toArray (H7.o.2.1.there 0 10 (nR _)) GJ (GG ..) ?_;have H6:Hid (blk (World.setCells w7 W.heap.size 0 (sgV lvl vf vd false c F fa F.l.length fc)) W.heap.size (sgV lvl vf vd false c F fa F.l.length fc) 145/\Bl W (World.setCells w7 W.heap.size 0 (sgV lvl vf vd false c F fa F.l.length fc))/\∀ q,q≠W.heap.size->(World.setCells w7 W.heap.size 0 (sgV lvl vf vd false c F fa F.l.length fc)).heap[q]?=w7.heap[q]?):=⟨JV H7.o.2.1,sW (nR _) 0 _ H7.o.2.2.1,fun q hq=>sO _ q hq _ _ _⟩;generalize World.setCells w7 W.heap.size 0 _=w6 at *))
 refine bC results285 (Ma H6.o.1) ⟨fa,fc,rfl,⟨HQ.o.1.at_ fun hl g hg=>?_,fun hl g hg=>qA (HQ.o.2 hl g hg).1⟩,H6.o.2.1⟩;have hh:=HQ.o.2 hl g hg;exact (H6.o.2.2 _ om).trans (H7.o.2.2.2 _ om)
end
def hrP (C:Co) (more:ByteArray) (ov:Bool) (c:Int) (F:R5):Co × ByteArray:=
 if ov=true then (af C (aS C 1),⟨#[]⟩)
 else if (c == 1)=true then (af C (aw C 2 F),more)
 else if (c == 2)=true then (af C (aw C 3 zF5),⟨#[]⟩)
 else if (c == 6)=true then (af C (aw C 4 zF5),⟨#[]⟩)
 else if (c == 3)=true then (af C (aS C 2),⟨#[]⟩)
 else if (c == 4)=true then (af C (aS C 3),⟨#[]⟩)
 else if (c == 5)=true then (af C (aS C 4),⟨#[]⟩)
 else (C,more)
def z5L:List Value:=[bO false,I .u32 0,bO false,I J 0,sL nn 0 0]
section
variable {κ κ1 κ0 : Nat -> Nat} {C C2 : Co} {H : Ho} {s s1 : Sl} {w W : World}
def KZ (h:hG κ C.ho s w) (hd:ByteArray) (vc vf:Int) (vd vo:Bool) (b:Nat) (hb:b=0\/b=1) (hsz:hd.size<=1048576) (hok:MV C) (hp:C.p=1) (hn:C.ho.le 1048576) (c:Int) (F:R5) (hF8:F.l.length<=8)
  (hD:∀ X,Calls Tp 68 #[.string (hd++da b)] X fun o w'=>∃ fa fc,o = rT (.tuple #[frV F.e F.i F.r F.d fa F.l.length fc,I J c])/\(c=1->∃ g,fa=sQ ⟨g,0,nn⟩/\X.heap.size<=g/\g<w'.heap.size/\iB w' fa F.l.length fc F.l)/\Bl X w') :
  Calls Tp 31 #[aG (rfL C s hd).toArray,aG #[I J vc,I J vf,bO vd,bO vo],I J (b:Int)] w (rA w κ (hrP C (hd++da b) (((vf == 12) && vo) && ((b:Int) == 1)) c F).1 (hrP C (hd++da b) (((vf == 12) && vo) && ((b:Int) == 1)) c F).2):=by
 have F0:Hid _:=fr.new3 h hd [I J vc,I J vf,bO vd,bO vo];have hp7:C.p≠7:=by rw[hp];decide
 have HFT:Hid (∀ k W,hG κ C.ho s W->Calls Tp 64 #[aG (rfL C s hd).toArray,I J k] W (rA W κ (af C (aS C k)) ⟨#[]⟩)):=fun k W hW=>Iy hW hd k hok hp7 hn;have HF3:Hid (∀ W,hG κ C.ho s W->Calls Tp 67 #[aG (rfL C s hd).toArray,I J 3] W (rA W κ (af C (aw C 3 zF5)) ⟨#[]⟩)):=fun W hW=>GL hW hd 3 (by decide) hok hp hn;have HF4:Hid (∀ W,hG κ C.ho s W->Calls Tp 67 #[aG (rfL C s hd).toArray,I J 4] W (rA W κ (af C (aw C 4 zF5)) ⟨#[]⟩)):=fun W hW=>GL hW hd 4 (by decide) hok hp hn;have HF2:Hid (∀ W g fc,hG κ C.ho s W->iB W (sQ ⟨g,0,nn⟩) F.l.length fc F.l->g<W.heap.size->κ g=0->Calls Tp 66 #[aG (coL C s).toArray,I J 2,frV F.e F.i F.r F.d (sQ ⟨g,0,nn⟩) F.l.length fc] W (cA W κ (af C (aw C 2 F)))):=fun W g fc hW h1 h2 h3=>Gx hW 2 F (sQ ⟨g,0,nn⟩) F.l.length fc hok hp hn (fun _=>⟨g,rfl,h1,h2,h3⟩) om;have HBT:Hid (∀ W,Calls Tp 53 #[I J (b:Int),I J 1] W fun o w'=>o = rT (.string (da b))/\w'=W):=fun W=>J6 W b hb;have HD:=ah hD;have hbs:(da b).size=1:=by rcases hb with rfl | rfl <;> rfl
 generalize da b=bt at *;clear h hok hp hn hp7 hD;obtain⟨v12,e12⟩ : ∃ q,(vf == 12)=q:=⟨_,rfl⟩
 obtain⟨b1,e1⟩ : ∃ q,((b:Int) == 1)=q:=⟨_,rfl⟩
 obtain⟨k1,g1⟩ : ∃ b,(c == 1)=b:=⟨_,rfl⟩
 obtain⟨k2,g2⟩ : ∃ b,(c == 2)=b:=⟨_,rfl⟩
 obtain⟨k6,g6⟩ : ∃ b,(c == 6)=b:=⟨_,rfl⟩
 obtain⟨k3,g3⟩ : ∃ b,(c == 3)=b:=⟨_,rfl⟩
 obtain⟨k4,g4⟩ : ∃ b,(c == 4)=b:=⟨_,rfl⟩
 obtain⟨k5,g5⟩ : ∃ b,(c == 5)=b:=⟨_,rfl⟩
 rw[e12,e1];obtain⟨ov,eov⟩ : ∃ q,((v12 && vo) && b1)=q:=⟨_,rfl⟩
 rw[eov];obtain⟨R,hR⟩ : ∃ R,hrP C (hd++bt) ov c F=R:=⟨_,rfl⟩
 have HR:Hid (R=if ov=true then (af C (aS C 1),⟨#[]⟩) else if k1=true then (af C (aw C 2 F),hd++bt) else if k2=true then (af C (aw C 3 zF5),⟨#[]⟩) else if k6=true then (af C (aw C 4 zF5),⟨#[]⟩) else if k3=true then (af C (aS C 2),⟨#[]⟩) else if k4=true then (af C (aS C 3),⟨#[]⟩) else if k5=true then (af C (aS C 4),⟨#[]⟩) else (C,hd++bt)):=by
  show _=_;rw[<- hR];unfold hrP;rw[g1,g2,g6,g3,g4,g5]
 have HC1:Hid (k1=true->c=1):=by show _->_;rw[<- g1];simp
 rw[hR];clear hR;go_enter func31,ntmps31;go_upto_region 1 with fail
 change Code.wp _ _ _ _ (((w.alloc (.cells (rfL C s hd).toArray 45)).alloc (.cells [I J vc,I J vf,bO vd,bO vo].toArray 57)).alloc (.cells Z22.toArray 45));generalize hV:((w.alloc (.cells (rfL C s hd).toArray 45)).alloc (.cells [I J vc,I J vf,bO vd,bO vo].toArray 57)).alloc (.cells Z22.toArray 45)=v0 at *;clear hV;have F0:Hid (fr3 w κ [I J vc,I J vf,bO vd,bO vo] κ C s hd C.ho s v0):=F0;go_cut [20] (fun v wx=>v = bO ov/\wx=v0);case first=>
  have v1:=F0.o.f.cell 1 (I J vf) rfl;have v3:=F0.o.f.cell 3 (bO vo) rfl
  cases v12 <;> cases vo <;> cases b1 <;> (
   go_wp2_with fail;go_meet
   case rel=>exact⟨by rw[<- eov];rfl,rfl⟩)
 case rest=>
 obtain⟨rfl,hw⟩:=hcut;have hw:=hw.symm;subst hw;clear eov e12 e1;cases ov;case true=>
  clear HF2 HF3 HF4 HD HBT;go_wp2_with (refine fr.ld F0.o ?_);refine (HFT.o 1 _ F0.o.g).mono ?_;rintro o w2 ⟨s2,κ2,rfl,G2⟩;have F2:Hid _:=F0.o.call G2.o;clear G2;go_wp2_with (refine fr.rt F2.o ?_;intro w8 b8 G8);refine bC results31 (At b8) ?_;rw[HR.o];exact⟨s2,κ2,rfl,G8⟩
 case false=>
 have y21:=F0.o.p.cell 21 (.string hd) rfl;go_upto_region 3 with fail
 go_cut [7] (fun v wx=>v = .string (hd++bt)/\Hid (fr3 w κ [I J vc,I J vf,bO vd,bO vo] κ C s hd C.ho s wx));case first=>
  refine QJ (S:=fun X=>fr3 w κ [I J vc,I J vf,bO vd,bO vo] κ C s hd C.ho s X) kr ?_;have hS:fr3 w κ [I J vc,I J vf,bO vd,bO vo] κ C s hd C.ho s (World.drew v0):=F0.o.below (bW _ _).drew;clear F0 y21;change wpAnyH Tp _ _ _ _ _ _ _ (World.drew v0);generalize World.drew v0=v1 at *;refine wV 0 (pT (sQ ⟨w.heap.size,21,nn⟩)) ?_ hS ?_
  .intro W hSw;clear hS;go_simp
  simp only[Act.put,aA,aB,aC,aD,aE];refine wV 1 (.string hd) ?_ hS ?_
  .intro W hSw;clear hS;have y:=hSw.p.cell 21 (.string hd) rfl;go_simp
  simp only[aZ];refine wV 2 (I J (b:Int)) ?_ hS ?_
  .intro W hSw;clear hS;go_simp
  simp only[aZ];refine QF (rs:=[3]) kr pQ ?_;refine Q8 rfl (fun K2 hK2=>?_) Q9;go_simp;refine (HBT.o v1).mono ?_;rintro o w2 ⟨rfl,rfl⟩;go_wp2_with fail;refine hK2.out _ _ hS (fun hS3=>?_);clear hK2 K2 hS3;refine wV 4 (.string (hd++bt)) ?_ hS ?_
  .intro W hSw;clear hS;go_simp;omega
  simp only[aZ];refine wV 5 (.string (hd++bt)) ?_ hS ?_
  .intro W hSw;clear hS;go_simp
  simp only[aZ];refine QH kr ?_ _;go_wp2_with fail;go_meet;case rel=>exact⟨rfl,hS⟩
 case rest=>
 obtain⟨rfl,F1⟩:=hcut;clear F0 y21 HBT hbs hsz;go_upto_region 4 with fail
 go_cut [8,9] (fun v u wx=>∃ fb fa fc,v = pT (sQ ⟨fb,0,nn⟩)/\u = I J c/\Hid (fr3 w κ [I J vc,I J vf,bO vd,bO vo] κ C s hd C.ho s wx/\blk wx fb (frL F fa F.l.length fc) 67/\(c=1->∃ g,fa=sQ ⟨g,0,nn⟩/\iB wx (sQ ⟨g,0,nn⟩) F.l.length fc F.l/\g<wx.heap.size/\κ g=0)));case first=>
  go_wp2_with fail;refine (HD.o _).mono ?_;rintro o w4 ⟨fa,fc,rfl,q1,b4⟩;have H4:Hid (fr3 w κ [I J vc,I J vf,bO vd,bO vo] κ C s hd C.ho s w4/\(c=1->∃ g,fa=sQ ⟨g,0,nn⟩/\iB w4 (sQ ⟨g,0,nn⟩) F.l.length fc F.l/\g<w4.heap.size/\κ g=0)):=⟨F1.o.below b4,fun e=>by obtain⟨g,rfl,h1,h2,h3⟩:=q1 e;exact⟨g,rfl,h3,h2,F1.o.g.no h1⟩⟩
  have H5:=ah (blk.new w4 z5L 67);clear b4 q1;go_wp2_with (refine Zs 67 (frL F fa F.l.length fc).toArray (H5.o.there 0 5 (nR _)) kr (QK (by simp[Value.oneCell'])) ?_;generalize hW3:World.setCells _ w4.heap.size 0 _=w5;have HW3:Hid (_=w5):=hW3;clear hW3);go_meet;case rel=>
   have e:(w4.alloc (.cells z5L.toArray 67)).setCells w4.heap.size 0 (frL F fa F.l.length fc)=w5:=HW3.o;have hb:Bl w4 w5:=by rw[<- e];exact sW (nR _) 0 _ Zw
   refine⟨_,fa,fc,rfl,rfl,H4.o.1.below hb,?_,fun e=>?_⟩
   .rw[<- e];have:=blk.put [] z5L [] (frL F fa F.l.length fc) (w:=w4.alloc (.cells z5L.toArray 67)) (b:=w4.heap.size) (T:=67) (by simpa using H5.o) rfl;simpa using this
   .obtain⟨g,h1,h2,h3,h4⟩:=H4.o.2 e;exact⟨g,h1,h2.below hb,nL h3 hb.size,h4⟩
 case rest=>
 obtain⟨fb,fa,fc,rfl,rfl,F2⟩:=hcut;clear F1 HD;have z21:=F2.o.1.p.free 21;have y21:=F2.o.1.p.cell 21 (.string hd) rfl;cases k1;case true=>
  obtain⟨g,rfl,q1,q2,q3⟩:=F2.o.2.2 (HC1.o rfl);have HQ:=ah (qG q1 (qG q2 q3));clear q1 q2 q3 HF3 HF4 HFT;go_wp2_with (first | (refine fr.lc F2.o.1 ?_) | (refine ZG 67 F2.o.2.1.load underlying67 jc ?_));refine (HF2.o _ g fc F2.o.1.g HQ.o.1 HQ.o.2.1 HQ.o.2.2).mono ?_;rintro o w2 ⟨s2,κ2,rfl,G2⟩;have F3:Hid _:=F2.o.1.call G2.o;clear G2;go_upto_region 19 with (refine fr.sc F3.o ?_;intro w3 F4;have y31:=F4.o.p.cell 21 (.string hd) rfl;have z31:=F4.o.p.free 21)
  have F9:Hid _:=F4.o.set 21 (.string (hd++bt)) (af C (aw C 2 F)) (hd++bt) rfl;generalize World.setCell w3 ⟨w.heap.size,21,nn⟩ (.string (hd++bt))=w9 at *;go_wp2_with (first | (refine fr.ld F9.o ?_) | (refine fr.rt F9.o ?_;intro w8 b8 G8));refine bC results31 (At b8) ?_;rw[HR.o];exact⟨s2,κ2,rfl,G8⟩
 case false=>
 cases k2;case true=>
  go_wp2_with (refine fr.ld F2.o.1 ?_);refine (HF3.o _ F2.o.1.g).mono ?_;rintro o w2 ⟨s2,κ2,rfl,G2⟩;have F3:Hid _:=F2.o.1.call G2.o;clear G2;go_wp2_with (refine fr.rt F3.o ?_;intro w8 b8 G8);refine bC results31 (At b8) ?_;rw[HR.o];exact⟨s2,κ2,rfl,G8⟩
 case false=>
 cases k6;case true=>
  go_wp2_with (refine fr.ld F2.o.1 ?_);refine (HF4.o _ F2.o.1.g).mono ?_;rintro o w2 ⟨s2,κ2,rfl,G2⟩;have F3:Hid _:=F2.o.1.call G2.o;clear G2;go_wp2_with (refine fr.rt F3.o ?_;intro w8 b8 G8);refine bC results31 (At b8) ?_;rw[HR.o];exact⟨s2,κ2,rfl,G8⟩
 case false=>
 cases k3;case true=>
  go_wp2_with (refine fr.ld F2.o.1 ?_);refine (HFT.o 2 _ F2.o.1.g).mono ?_;rintro o w2 ⟨s2,κ2,rfl,G2⟩;have F3:Hid _:=F2.o.1.call G2.o;clear G2;go_wp2_with (refine fr.rt F3.o ?_;intro w8 b8 G8);refine bC results31 (At b8) ?_;rw[HR.o];exact⟨s2,κ2,rfl,G8⟩
 case false=>
 cases k4;case true=>
  go_wp2_with (refine fr.ld F2.o.1 ?_);refine (HFT.o 3 _ F2.o.1.g).mono ?_;rintro o w2 ⟨s2,κ2,rfl,G2⟩;have F3:Hid _:=F2.o.1.call G2.o;clear G2;go_wp2_with (refine fr.rt F3.o ?_;intro w8 b8 G8);refine bC results31 (At b8) ?_;rw[HR.o];exact⟨s2,κ2,rfl,G8⟩
 case false=>
 cases k5;case true=>
  go_wp2_with (refine fr.ld F2.o.1 ?_);refine (HFT.o 4 _ F2.o.1.g).mono ?_;rintro o w2 ⟨s2,κ2,rfl,G2⟩;have F3:Hid _:=F2.o.1.call G2.o;clear G2;go_wp2_with (refine fr.rt F3.o ?_;intro w8 b8 G8);refine bC results31 (At b8) ?_;rw[HR.o];exact⟨s2,κ2,rfl,G8⟩
 case false=>
 go_upto_region 19 with fail
 have F9:Hid _:=F2.o.1.set 21 (.string (hd++bt)) C (hd++bt) rfl;generalize World.setCell _ ⟨w.heap.size,21,nn⟩ (.string (hd++bt))=w9 at *;go_wp2_with (first | (refine fr.ld F9.o ?_) | (refine fr.rt F9.o ?_;intro w8 b8 G8));refine bC results31 (At b8) ?_;rw[HR.o];exact⟨s,κ,rfl,G8⟩
end
section
variable {κ : Nat -> Nat} {C : Co} {s : Sl} {w : World}
def Mz:(Tp.info? 57).map (·.size)=some 4:=kr
def KX (h:hG κ C.ho s w) (hd img:ByteArray) (vc vf:Int) (vd vo:Bool) (b:Int) (T:Co) (hd':ByteArray) (p1:Bool) (ep:(C.p != 1) = !p1)
  (h0:p1=false->(∀ W,hG κ C.ho s W->Calls Tp 29 #[aG (coL C s).toArray,I J b] W (cA W κ T))/\(if (T.p == 1)=true then ⟨#[48]⟩ else hd)=hd')
  (h1:p1=true->C.tx=true->∀ W,hG κ C.ho s W->Calls Tp 30 #[aG (rfL C s hd).toArray,.string img,aG #[I J vc,I J vf,bO vd,bO vo],I J b] W (rA W κ T hd'))
  (h2:p1=true->C.tx=false->∀ W,hG κ C.ho s W->Calls Tp 31 #[aG (rfL C s hd).toArray,aG #[I J vc,I J vf,bO vd,bO vo],I J b] W (rA W κ T hd')) :
  Calls Tp 14 #[aG (rfL C s hd).toArray,.string img,aG #[I J vc,I J vf,bO vd,bO vo],I J b] w (rA w κ T hd'):=by
 have F0:Hid _:=fr.new3 h hd [I J vc,I J vf,bO vd,bO vo];have H0:=ah h0;have H1:=ah h1;have H2:=ah h2;obtain⟨tx,etx⟩ : ∃ b,C.tx=b:=⟨_,rfl⟩
 rw[etx] at H1 H2;clear h h0 h1 h2;go_enter func14,ntmps14;go_upto_region 1 with fail
 change Code.wp _ _ _ _ (((w.alloc (.cells (rfL C s hd).toArray 45)).alloc (.cells [I J vc,I J vf,bO vd,bO vo].toArray 57)).alloc (.cells Z22.toArray 45));generalize hV:((w.alloc (.cells (rfL C s hd).toArray 45)).alloc (.cells [I J vc,I J vf,bO vd,bO vo].toArray 57)).alloc (.cells Z22.toArray 45)=v0 at *;clear hV;have F0:Hid (fr3 w κ [I J vc,I J vf,bO vd,bO vo] κ C s hd C.ho s v0):=F0;have y0:=F0.o.p.cell 0 (I J C.p) rfl;have y6:=F0.o.p.cell 6 (bO C.tx) rfl;rw[etx] at y6;clear etx;cases p1;case false=>
  clear H1 H2 y6;obtain⟨HS,eh⟩:=H0.o rfl;have HS:=ah HS;have HE:=ah eh;clear H0 eh;go_wp2_with (refine fr.lc F0.o ?_);refine (HS.o _ F0.o.g).mono ?_;rintro o w2 ⟨s2,κ2,rfl,G2⟩;have F2:Hid _:=F0.o.call G2.o;clear G2 F0 y0;obtain⟨q1,e1⟩ : ∃ q,(T.p == 1)=q:=⟨_,rfl⟩
  rw[e1] at HE;go_upto_region 3 with (refine fr.sc F2.o ?_;intro w3 F3)
  have x0:=F3.o.p.cell 0 (I J T.p) rfl;have x21:=F3.o.p.cell 21 (.string hd) rfl;have z21:=F3.o.p.free 21;clear F2;go_upto_if 21 with fail
  go_cut [] (fun wx=>Hid (fr3 w κ [I J vc,I J vf,bO vd,bO vo] κ2 T s2 hd' T.ho s2 wx));case first=>
   cases q1;case false=>
    go_wp2_with fail;go_meet;case rel=>exact (by have e:hd=hd':=HE.o;rw[<- e];exact F3.o)
   case true=>
    go_wp2_with fail;go_meet;case rel=>exact (by have e:(⟨#[48]⟩ : ByteArray)=hd':=HE.o;rw[<- e];exact F3.o.set 21 (.string ⟨#[48]⟩) T ⟨#[48]⟩ rfl)
  case rest=>
  have F4:=hcut;clear hcut F3 x0 x21 z21;go_wp2_with (first | (refine fr.ld F4.o ?_) | (refine fr.rt F4.o ?_;intro w8 b8 G8));exact bC results14 (At b8) ⟨s2,κ2,rfl,G8⟩
 case true=>
  clear H0;cases tx;case true=>
   have HS:=ah (H1.o rfl rfl);clear H1 H2;go_wp2_with (first | (refine fr.ld F0.o ?_) | (refine Zi 57 [I J vc,I J vf,bO vd,bO vo] F0.o.f.load underlying57 Mz ?_));refine (HS.o _ F0.o.g).mono ?_;rintro o w2 ⟨s2,κ2,rfl,G2⟩;have F2:Hid _:=F0.o.call G2.o;clear G2;go_wp2_with (refine fr.rt F2.o ?_;intro w8 b8 G8);exact bC results14 (At b8) ⟨s2,κ2,rfl,G8⟩
  case false=>
   have HS:=ah (H2.o rfl rfl);clear H1 H2;go_wp2_with (first | (refine fr.ld F0.o ?_) | (refine Zi 57 [I J vc,I J vf,bO vd,bO vo] F0.o.f.load underlying57 Mz ?_));refine (HS.o _ F0.o.g).mono ?_;rintro o w2 ⟨s2,κ2,rfl,G2⟩;have F2:Hid _:=F0.o.call G2.o;clear G2;go_wp2_with (refine fr.rt F2.o ?_;intro w8 b8 G8);exact bC results14 (At b8) ⟨s2,κ2,rfl,G8⟩
end
section
variable {C:Co} {H:Ho} {F:R5}
def Mh (C:Co) (b r:Int):(aP C b r).ho=C.ho\/(aP C b r).ho=(ovC C).ho\/(∃ k,(aP C b r).ho=(aS C k).ho)\/(aP C b r).ho=eQ C.ho r:=by
 have ha:∀ X n,X.ho=C.ho->(oX X C.tx n).ho=C.ho:=fun X n e=>by unfold oX;split <;> exact e
 unfold aP;split
 .unfold idC;split <;> exact qr rfl
 split
 .unfold flC;split
  .rw[(ID _ _).2.2,KF];exact qr rfl
  split
  .exact qx (qx (qr ⟨1,rfl⟩))
  split <;> exact qr rfl
 split
 .unfold waC;split
  .exact qr rfl
  split
  .exact qr (ha _ _ rfl)
  split
  .exact qr (ha { C with ct:=C.ct+1 } 8 rfl)
  .exact qr rfl
 split
 .unfold dlC;split
  .split
   .exact qx (qr rfl)
   .exact qx (qx (qr ⟨3,rfl⟩))
  .split <;> exact qr rfl
 split
 .unfold gpC;split
  .split
   .exact qx (qr rfl)
   .rcases (J0 C r).2.1 with e|e
    .exact qx (qx (qx e))
    .exact qr e
  .split
   .exact qr (JZ _).2.1
   .exact qr rfl
 split
 .unfold suC;split
  .exact qr rfl
  split <;> exact qr rfl
 split
 .unfold ofC;split
  .split
   .exact qr rfl
   split
   .split <;> exact qr rfl
   .exact qr rfl
  .exact qr rfl
 .exact qr rfl
def LU (C:Co) (b:Bool) (n:Int):(oX C b n).ho=C.ho:=by unfold oX;split <;> rfl
def I0 {A:Co} (h:A.ho.le 1048576) (hq:A.ho.qu.length<=1000):(af C A).ho.le 1048576:=by
 have e:(if A.te=256/\A.p≠7 then vv A else A).ho=A.ho:=by split <;> rfl
 unfold af;generalize (if A.te=256/\A.p≠7 then vv A else A)=X at *;unfold tS;split
 .rw[e];exact h
 .show Ho.le (pH X.ho _) _;rw[e];exact h.post hq (nZ _)
def Ju (h:H.le 1048576) (r:Int):(eQ H r).le 1048576:=by
 refine⟨h.fs,?_,h.ff,h.qu,fun j hj=>?_,h.fd,h.qd⟩
 .show (pd H.bx r).length<=_;rw[Is];exact h.bx
 .have hj':j<H.bx.length:=by have:j<(pd H.bx r).length:=hj;rw[Is] at this;exact this
  show (pd H.bx r)[j].l.length<=_;rw[Lp H.bx r j hj hj'];exact h.bd j hj'
def Ho.le.ffs (h:H.le 1048576) {L:List R5} (hl:L.length<=1048576) (hd:∀ x ∈ L,x.l.length<=1048576):(fHo H L).le 1048576:=
 ⟨h.fs,h.bx,hl,h.qu,h.bd,fun j hj=>hd _ (qn hj),h.qd⟩
def Lh (h:H.le 1048576) (hq:H.qu.length<=900) (hff:H.ff.length<=1000) (hf:F.l.length<=1048576):(f9 H F).le 1048576:=by
 have hm:∀ x ∈ H.ff,x.l.length<=1048576:=fun x hx=>by
  obtain⟨j,hj,rfl⟩:=List.getElem_of_mem hx;exact h.fd j hj
 unfold f9;split
 .split
  .split
   .exact Ho.le.post h om hf
   .obtain⟨L,hL⟩ : ∃ L,H.ff=L:=⟨_,rfl⟩
    rw[hL] at hm hff ⊢;cases L with
    | nil=>exact h
    | cons f r=>
     have h1:(pH H (evF 3 0 0 f)).le 1048576:=Ho.le.post h om (hm f pQ);have hql:(pH H (evF 3 0 0 f)).qu.length<=1000:=by
      have:=KR H.c3 H.qu (evF 3 0 0 f);show (quP H.c3 H.qu (evF 3 0 0 f)).length<=_;omega
     refine Ho.le.post (h1.ffs ?_ fun x hx=>?_) hql hf
     .simp at hff ⊢;omega
     .rcases List.mem_append.1 hx with hx|hx
      .exact hm x (by simp[hx])
      .simp at hx;rw[hx];exact hf
  .refine Ho.le.post (h.ffs ?_ fun x hx=>?_) (by show H.qu.length<=_;omega) hf
   .simp;omega
   .rcases List.mem_append.1 hx with hx|hx
    .exact hm x hx
    .simp at hx;rw[hx];exact hf
 .exact h
def Le {t:Int} (hok:MV C) (h:C.ho.le 1048576) (hf:F.l.length<=1048576):(af C (aw C t F)).ho.le 1048576:=by
 have hb:=hok.h.bd;have hl:∀ b,(Cz C.ho b).le 1048576:=fun b=>Hq h (nT hb.q (by decide));have hd:=Lh h hok.h.dl.2.2.1 hok.h.dl.2.1 hf;refine I0 ?_ ?_
 .unfold aw;split
  .exact hl true
  .split
   .exact hd
   .split
    .exact h
    .split
     .exact h.post hok.h.n4 (nZ _)
     .split
      .exact hl false
      .exact h
 .unfold aw;split
  .exact nT (hb.rel true).q (by decide)
  .split
   .exact nT (hb.del F).q (by decide)
   .split
    .exact nT hb.q (by decide)
    .split
     .exact nT (hb.post _).q (by decide)
     .split
      .exact nT (hb.rel false).q (by decide)
      .exact nT hb.q (by decide)
def IQ (C:Co) (k:Int):(aS C k).ho=vw C k:=by show (oX (Gh C k) C.tx _).ho=_;rw[LU];rfl
def Mt (k:Int) (hok:MV C) (h:C.ho.le 1048576):(af C (aS C k)).ho.le 1048576:=by
 have hb:=hok.h.bd.post (ev3 8 k (if C.tx then 1 else 0));refine I0 ?_ ?_
 .rw[IQ];exact Hq (h.post hok.h.n4 (nZ _)) (nT hb.q (by decide))
 .rw[IQ];exact nT (hb.rel false).q (by decide)
def Mg (k r:Int) (hok:MV C) (h:C.ho.le 1048576):(af C (aP C k r)).ho.le 1048576:=by
 refine I0 ?_ (nT (KL hok.h.bd k r).q (by decide));rcases Mh C k r with e|e|⟨kk,e⟩|e
 .rw[e];exact h
 .rw[e];exact h.post hok.h.n4 (nZ _)
 .rw[e,IQ];exact Hq (h.post hok.h.n4 (nZ _)) (nT (hok.h.bd.post _).q (by decide))
 .rw[e];exact Ju h r
end
section
variable {w0 : Wd} {M : Nat} {G : Lg} {f1 f3 nm : Nat} {C : Co} {W : Wd}
def rsP (w0 W:Wd) (G:Lg) (M f3 nm:Nat) (T:Co) (R:Nat) (hd':ByteArray) (w':Wd):Prop:=∃ G' f1',mx w0 M G' f1' f3 nm T w'/\blk w' R [pT (sQ ⟨M,0,nn⟩),.string hd'] 95/\∀ q x L Ty,q≠R->lv M G q=false->blk W q (x :: L) Ty->blk w' q (x :: L) Ty
def Lt (s:Nat->Value) (h:∀ v ∈ sgF s,v.oneCell'=true):(sgF s).toArray.all (·.oneCell')=true:=QK h
def Hr (h:mx w0 M G f1 f3 nm C W) (R:Nat) (hd more:ByteArray) (b:Nat) (hb:b=0\/b=1) (hm:more=hd++da b) (hsz:hd.size<=1048576) (hR:blk W R [pT (sQ ⟨M,0,nn⟩),.string hd] 95) (hn:R≠M) (hU:lhU G R) (A:Co) (p1:Bool) (ep:(C.p == 1)=p1) (Kp:(Nat->Value)->Wd->Prop)
  (hlk:p1=true->∀ X,Bl W X->Calls Tp 285 #[pT (sQ ⟨R,0,nn⟩),.string more] X fun o w'=>∃ S,o = rT (aG (sgF S).toArray)/\(Kp S w'/\∀ v ∈ sgF S,v.oneCell'=true)/\Bl X w')
  (hst:∀ S X Y,(p1=true->Kp S X)->mx w0 M { G with s:=S,u:=bln X (lv M G) } f1 f3 nm C Y->Calls Tp 291 #[pT (sQ ⟨M,0,nn⟩),I J (b:Int)] Y fun o w'=>o = rT (.tuple #[])/\my w0 M { G with s:=S,u:=bln X (lv M G) } f3 nm A w')
  (q1:Bool) (eq1:((af C A).p == 1)=q1) (hd':ByteArray) (eh:(if q1=true then more else ⟨#[]⟩)=hd') :
  Calls Tp 284 #[pT (sQ ⟨R,0,nn⟩),I J (b:Int)] W fun o w'=>o = rT (.tuple #[])/\rsP w0 W G M f3 nm (af C A) R hd' w':=by
 have HEH:=ah eh;clear eh;have y0:=hR.cell 0 (pT (sQ ⟨M,0,nn⟩)) rfl;have y1:=hR.cell 1 (.string hd) rfl;have y3:=h.m.cell 3 (I J C.p) rfl;have HL:=ah hlk;have HST:=ah hst;have HLV:Hid (lv M G R=false):=by obtain⟨b1,b2,b3,b4,b5,b6,b7⟩:=hU;exact KV hn ⟨om,om,om,om,om⟩
 have H0:=ah (qG h hR);have HU:=ah (qG hn hU);have HM:=ah hm;have hne:((af C A).p != 1) = !q1:=by rw[<- eq1];rfl
 clear h hR hlk hst hn hU hm eq1;go_enter func284,ntmps284;go_upto_region 0 with fail
 go_cut [4] (fun v wx=>v = .string more/\wx=W);case first=>
  have u8:Utf8.encode 48=da 0:=by rfl
  have u9:Utf8.encode 49=da 1:=by rfl
  have k8:(da 0).size=1:=rfl;have k9:(da 1).size=1:=rfl;rcases hb with rfl|rfl;all_goals
   go_wp2_with fail;go_meet;case rel=>exact⟨by rw[HM.o],rfl⟩
 case rest=>
 obtain⟨rfl,hw⟩:=hcut;have hw:=hw.symm;subst hw;clear y1 HM hsz;go_upto_if 22 with fail
 go_cut [] (fun wx=>∃ S X,Hid ((p1=true->Kp S X)/\mx w0 M { G with s:=S,u:=bln X (lv M G) } f1 f3 nm C wx/\∀ q x L Ty,lv M G q=false->blk W q (x :: L) Ty->blk (bln X (lv M G)) q (x :: L) Ty));case first=>
  cases p1;case false=>
   go_wp2_with fail;go_meet;case rel=>exact⟨G.s,W,fun e=>(by cases e),H0.o.1.base0,fun q x L Ty h1 h2=>(GF h1).trans h2⟩
  case true=>
   go_wp2_with fail;refine QJ (S:=fun X=>X.cell? ⟨R,0,nn⟩=sQ (pT (sQ ⟨M,0,nn⟩))) kr ?_;have hB:Bl W (World.drew W):=(bW _ _).drew;have HC:Hid (∀ X,Bl W X->X.cell? ⟨R,0,nn⟩=sQ (pT (sQ ⟨M,0,nn⟩))):=fun X hX=>(hX.cell (QC W _ y0)).trans y0;have hS:(fun X:Wd=>X.cell? ⟨R,0,nn⟩=sQ (pT (sQ ⟨M,0,nn⟩))) (World.drew W):=HC.o _ hB;clear y0 y3;change wpAnyH Tp _ _ _ _ _ _ _ (World.drew W);generalize World.drew W=v0 at *;refine tk 0 ?_;refine tk 1 ?_;refine tk 2 ?_;refine tk 3 ?_ (hy:=fun X hX=>by (have y:=hX;go_simp;try rfl));refine tk 4 ?_;refine tk 5 ?_;refine al 6 fun K2 hK2=>?_;go_simp;refine (HL.o (by trivial) _ hB).mono ?_;rintro y v1 ⟨S,rfl,⟨hk,h1⟩,b1⟩;have hB1:Bl W v1:=hB.trans (b1.mono hB.size);have hS1:(fun X:Wd=>X.cell? ⟨R,0,nn⟩=sQ (pT (sQ ⟨M,0,nn⟩))) v1:=HC.o _ hB1;have HK:=ah (qG hk h1);clear hk h1;go_wp2_with fail;refine hK2.out _ _ hS1 (fun _=>?_);clear hS hK2 K2 b1 hB;have hS:=hS1;clear hS1;have H1:=ah (H0.o.1.below hB1);refine tk 7 ?_;refine tk 8 ?_;refine al 9 fun K2 hK2=>?_;rw[qc (by rfl)];refine QT (P:=Tp) 145 (.tmp 31) (.tmp 29) rfl M 12 (sgF S).toArray rfl rfl (H1.o.m.there 12 10 (by rw[II];decide)) GJ (Lt _ HK.o.2) ?_;have hS6:(fun X:Wd=>X.cell? ⟨R,0,nn⟩=sQ (pT (sQ ⟨M,0,nn⟩))) (World.setCells v1 M 12 (sgF S)):=by
    have e:(World.setCells v1 M 12 (sgF S)).heap[R]?=v1.heap[R]?:=sO _ R HU.o.1 _ _ _;show World.cell? _ _=_;rw[<- hS];simp only[World.cell?,e]
   refine hK2.out _ _ hS6 (fun _=>?_);refine QH kr ?_ _;go_wp2_with fail;go_meet;case rel=>exact⟨S,v1,fun _=>HK.o.1,H1.o.base0.sight S,fun q x L Ty h1 h2=>(GF h1).trans (h2.below hB1)⟩
 case rest=>
 obtain⟨S,X,H1⟩:=hcut;have HRB:=ah (H1.o.2.2 R _ _ _ HLV.o H0.o.2);have z0:=(H1.o.2.1.stay HRB.o).cell 0 (pT (sQ ⟨M,0,nn⟩)) rfl;have HSA:=ah (Jw H1.o.2.1 A (b:Int) fun Y hY=>HST.o S X Y H1.o.1 hY);clear y0 y3 HL HST H0;go_wp2_with fail;refine HSA.o.mono ?_;rintro o w5 ⟨rfl,f5,h5⟩;have H5:=ah (qG h5 (h5.stay HRB.o));have HOT:Hid (∀ q x L Ty,q≠R->lv M G q=false->blk W q (x :: L) Ty->blk w5 q (x :: L) Ty):=fun q x L Ty _ h1 h2=>h5.stay (H1.o.2.2 q x L Ty h1 h2);have x0:=H5.o.2.cell 0 (pT (sQ ⟨M,0,nn⟩)) rfl;have x3:=h5.m.cell 3 (I J (af C A).p) rfl;clear h5 HSA H1 z0;go_upto_if 46 with fail
 go_cut [4] (fun v wx=>v = .string hd'/\wx=w5);case first=>
  cases q1;all_goals
   go_wp2_with fail;go_meet;case rel=>exact⟨by rw[<- HEH.o];rfl,rfl⟩
 case rest=>
 obtain⟨rfl,hw⟩:=hcut;have hw:=hw.symm;subst hw;have f1:=H5.o.2.free 1;have u1:=H5.o.2.cell 1 (.string hd) rfl;obtain⟨G2,h6⟩:=H5.o.1.heard H5.o.2 HU.o.1 (by obtain⟨b1,b2,b3,b4,b5,b6,b7⟩:=HU.o.2;exact⟨b1,b2,b3,b4,b5,b6⟩) (.string hd');have H6:=ah (qG h6 (H5.o.2.set 1 (.string hd')));clear h6 H5 x3 hne;go_wp2_with fail;refine bN ?_
 exact⟨rfl,G2,f5,H6.o.1,H6.o.2,fun q x L Ty h1 h2 h3=>(HOT.o q x L Ty h1 h2 h3).kept (QA _ _ _ _ (by exact h1))⟩
end
section
variable {w0 : World} {M : Nat} {G : Lg} {f1 f3 nm : Nat} {C : Co} {W : World}
def Kk (w : World) (a : Addr) : (method 472 60 (pT (some a)) "loop.example/s01647/impl.step").run Tp w = .ok (284, pT (some a)) w := by kernel_rfl
def Kb {T:Co} (h:mx w0 M G f1 f3 nm C W) (R:Nat) (hd hd':ByteArray) (b:Int) (hR:blk W R [pT (some ⟨M,0,none⟩),.string hd] 95)
  (hdr:∀ X,Bl W X->Calls Tp 284 #[pT (some ⟨R,0,none⟩),I J b] X fun o w'=>o = rT (.tuple #[])/\rsP w0 X G M f3 nm T R hd' w') :
  Calls Tp 20 #[.iface 60 (pT (some ⟨R,0,none⟩)),I J b] W fun o w'=>(∃ s' B E,o = rT (aG (acL T s' hd').toArray)/\tlQ T B E s' w'/\W.heap.size<=B/\E<=w'.heap.size)/\Bl w0 w':=by
 have HA:Hid (Bl W (W.alloc (.cells Z57.toArray 76))/\blk (W.alloc (.cells Z57.toArray 76)) W.heap.size Z57 76):=⟨Zw,blk.new W _ 76⟩
 have HD:=DU (hdr _ HA.o.1);have HL:Hid (W.heap.size≠R/\lv M G W.heap.size=false):=by
  have h1:=h.m.lt;have h2:=hR.lt;obtain⟨_,_,hc⟩:=h;obtain⟨b1,b2,b3,b4,b5,b6,b7⟩:=hc.h.lts;exact⟨om,KV om ⟨om,om,om,om,om⟩⟩
 have HZ0:Hid (w0.heap.size<=W.heap.size):=by obtain⟨_,_,hc⟩:=h;exact hc.h.b.size
 obtain⟨V0,hV0⟩ : ∃ V0,V0=W.alloc (.cells Z57.toArray 76):=⟨_,rfl⟩
 rw[<- hV0] at HA HD;have hm:=Kk V0 ⟨R,0,none⟩;clear h hR hdr;go_enter func20,ntmps20;go_upto_region 1 with fail
 change Code.wp _ _ _ _ (W.alloc (.cells Z57.toArray 76));rw[<- hV0];clear hV0;go_wp2_with fail;refine HD.o.mono ?_;rintro o w1 ⟨rfl,G1,g1,h1,hR1,hot⟩;have H1:=DU h1;have HZ:Hid (blk w1 W.heap.size Z57 76):=hot W.heap.size _ _ _ HL.o.1 HL.o.2 HA.o.2;have HC:Hid (Calls Tp 39 #[.iface 60 (pT (some ⟨R,0,none⟩))] w1 fun o w'=>∃ s' B T',o = rT (aG (acL T s' hd').toArray)/\tlQ T B T' s' w'/\w1.heap.size<=B/\T'<=w'.heap.size/\Bl w1 w'):=KD w1 M R hd' T (tlQ T) (fun _ _ _ _ _ he h=>h.keep he) hR1 fun X hX=>((h1.below hX).told).mono fun o w' h=>tlQ.told h;clear h1 HD hm hR1 hot;go_wp2_with fail;refine HC.o.mono ?_;rintro o w2 ⟨s2,B2,T2,rfl,hq2,hB2,hT2,hb2⟩;have HQ2:Hid (tlQ T B2 T2 s2 w2/\W.heap.size<B2/\T2<=w2.heap.size):=⟨hq2,nL HZ.o.lt hB2,hT2⟩
 clear hq2 hB2 hT2;have H2:=DU (qG (H1.o.below hb2) (HZ.o.below hb2))
 clear hb2 HC HZ;go_wp2_with (refine Zs 76 (acL T s2 hd').toArray (H2.o.2.there 0 _ (by rw[qR,Hk];decide)) Ez (J9 T s2 hd') ?_;generalize hW8:World.setCells _ W.heap.size 0 _=w8;have HW8:Hid (_=w8):=hW8;clear hW8)
 have e8:=HW8.o;have hF:blk w8 W.heap.size (acL T s2 hd') 76:=by
  rw[<- e8];have:=blk.put [] Z57 [] (acL T s2 hd') (w:=w2) (b:=W.heap.size) (T:=76) (by simpa using H2.o.2) (by rw[Hk];rfl);simpa using this
 have hL:=QI (P:=Tp) w8 W.heap.size 0 76 _ _ hF.load underlying76 rfl Ez;refine bC results20 hL ?_;refine⟨⟨s2,rfl,B2,T2,HQ2.o.1.keep fun k h1 _=>?_,by have:=HQ2.o.2.1;omega,by rw[<- e8,sZ];exact HQ2.o.2.2⟩,?_⟩
 .rw[<- e8];exact sO _ k (by have:=HQ2.o.2.1;omega) _ _ _
 rw[<- e8];obtain⟨_,_,hc⟩:=H2.o.1;exact sW HZ0.o 0 _ hc.h.b
end
def LX:rfL zCo zSl ⟨#[]⟩=Z22:=rfl
def LK (w:World) (T:Co) (s:Sl) (hd:ByteArray):(Instr.field 76 (aG (acL T s hd).toArray) 0).run Tp w = .ok (aG (rfL T s hd).toArray) w:=kr
def GB (C:Co) (hd:ByteArray) (vc:Nat) (bi:Int):Prop:=fH C hd vc/\(bi=0\/bi=1)
def rsR (ok:Prop) (T:Co) (hd':ByteArray) (T1:Co) (h1:ByteArray):Prop:=(ok/\T1=T/\h1=hd')\/(¬ ok/\T1=zCo/\h1=⟨#[]⟩)
def Mq (w:World) (C:Co) (s:Sl) (hd:ByteArray) (vc vf:Nat) (vd vo:Bool) (bi:Int) (h:aK w C.ho s) (hs:dz s) (hm:C.ho.le 1048576) (hj:∀ W,Calls Tp 92 #[.string hd] W fun o w'=>o = rT (aG #[I J (vc:Int),I J (vf:Int),bO vd,bO vo])/\Bl W w') (T:Co) (hd':ByteArray)
  (hS:fH C hd vc->(bi=0\/bi=1)->∀ (w0:World) (M:Nat) (G:Lg) (nm:Nat) (W:World) (R:Nat),mx w0 M G 0 0 nm C W->blk W R [pT (some ⟨M,0,none⟩),.string hd] 95->R≠M->lhU G R->Calls Tp 284 #[pT (some ⟨R,0,none⟩),I J bi] W fun o w'=>o = rT (.tuple #[])/\rsP w0 W G M 0 nm T R hd' w') :
  Calls Tp 7 #[aG (rfL C s hd).toArray,I J bi] w fun o w'=>∃ T1 s' h1,o = rT (aG (rfL T1 s' h1).toArray)/\rsR (GB C hd vc bi) T hd' T1 h1/\(GB C hd vc bi->∃ B E,tlQ T1 B E s' w'/\w.heap.size<=B/\E<=w'.heap.size)/\(¬ GB C hd vc bi->s'=zSl)/\Bl w w':=by
 have H0:Hid (blk ((w.alloc (.cells (rfL C s hd).toArray 45)).alloc (.cells Z22.toArray 45)) w.heap.size (rfL C s hd) 45/\blk ((w.alloc (.cells (rfL C s hd).toArray 45)).alloc (.cells Z22.toArray 45)) (w.heap.size+1) Z22 45/\Bl w ((w.alloc (.cells (rfL C s hd).toArray 45)).alloc (.cells Z22.toArray 45))):=by
  refine⟨(blk.new w _ 45).alloc _,?_,Zw.alloc pQ _⟩;have:=blk.new (w.alloc (.cells (rfL C s hd).toArray 45)) Z22 45;simpa using this
 obtain⟨v0,hv0⟩ : ∃ v0,v0=(w.alloc (.cells (rfL C s hd).toArray 45)).alloc (.cells Z22.toArray 45):=⟨_,rfl⟩
 rw[<- hv0] at H0;have HO:=DU (pO v0 C s hd vc vf vd vo hj (h.below H0.o.2.2) hs hm);have HS:=ah hS;obtain⟨lb,elb⟩ : ∃ lb,decide (bi=0\/bi=1)=lb:=⟨_,rfl⟩
 have HLB:Hid (lb=true↔(bi=0\/bi=1)):=by show _↔_;rw[<- elb,qV]
 have HIL:Hid (∀ X,Calls Tp 19 #[I J bi] X fun o w'=>o = rT (bO lb)/\X=w'):=fun X=>by rw[<- elb];exact rm X bi
 clear h hs hm hj hS elb;go_enter func7,ntmps7;go_upto_region 1 with fail
 change Code.wp _ _ _ _ ((w.alloc (.cells (rfL C s hd).toArray 45)).alloc (.cells Z22.toArray 45));rw[<- hv0];clear hv0;go_wp2_with (refine ZG 45 H0.o.1.load underlying45 vI ?_);refine HO.o.mono ?_;rintro o w1 ⟨p,b,rfl,hb,hR,hb1⟩;have HB:=ah hb;have HR:=ah hR;have HZ:Hid (blk w1 (w.heap.size+1) Z22 45/\Bl w w1):=⟨H0.o.2.1.below hb1,H0.o.2.2.trans (hb1.mono H0.o.2.2.size)⟩
 clear hb hR hb1 HO;go_upto_region 2 with fail
 go_cut [18] (fun v wx=>v = bO (!b || !lb)/\wx=w1);case first=>
  cases b <;> cases lb;all_goals
   go_wp2_with (go_at_call 19;refine (HIL.o _).mono ?_;rintro o w5 ⟨rfl,rfl⟩);go_meet;case rel=>exact⟨rfl,rfl⟩
 case rest=>
 obtain⟨rfl,hw⟩:=hcut;have hw:=hw.symm;subst hw;obtain⟨c,ec⟩ : ∃ c,(!b || !lb)=c:=⟨_,rfl⟩
 have HCK:Hid (c=false↔GB C hd vc bi):=by show _↔_;unfold GB;rw[<- ec,<- HLB.o,<- HB.o];cases b <;> cases lb <;> simp
 have HBT:Hid (c=false->b=true):=by show _->_;rw[<- ec];cases b <;> simp
 rw[ec];clear ec HIL HB HLB;cases c;case true=>
  have hno:¬ GB C hd vc bi:=fun x=>by have:=HCK.o.2 x;cases this
  have HNO:=ah hno
  clear HR HS HBT HCK hno;go_wp2_with (refine Zs 45 Z22.toArray (HZ.o.1.there 0 _ (by decide)) vI (uH zCo zSl ⟨#[]⟩) ?_;generalize hW8:World.setCells _ (w.heap.size+1) 0 _=w8;have HW8:Hid (_=w8):=hW8;clear hW8)
  have e8:=HW8.o;have hF:blk w8 (w.heap.size+1) Z22 45:=by
   rw[<- e8];have:=blk.put [] Z22 [] Z22 (w:=w1) (b:=w.heap.size+1) (T:=45) (by simpa using HZ.o.1) rfl;simpa using this
  have hL:=QI (P:=Tp) w8 (w.heap.size+1) 0 45 _ _ hF.load underlying45 rfl vI;refine bC results7 hL ?_;have hno:=HNO.o;refine⟨zCo,zSl,⟨#[]⟩,by rw[LX],qx ⟨hno,rfl,rfl⟩,fun x=>Qy x hno,fun _=>rfl,?_⟩;rw[<- e8];exact sW om 0 _ HZ.o.2
 case false=>
 have hok:=HCK.o.1 rfl;obtain⟨R,rfl,w0,M,G,nm,h1,h2,h3,h4,h5⟩:=HR.o (HBT.o rfl);have HOK:=ah hok;clear HR HZ hok HCK HBT;have H1:Hid (Bl w w0/\blk w0 (w.heap.size+1) Z22 45):=⟨H0.o.2.2.trans (h2.mono H0.o.2.2.size),H0.o.2.1.below h2⟩
 have HDR:Hid (Calls Tp 20 #[.iface 60 (pT (some ⟨R,0,none⟩)),I J bi] w1 fun o w'=>(∃ s' B E,o = rT (aG (acL T s' hd').toArray)/\tlQ T B E s' w'/\w1.heap.size<=B/\E<=w'.heap.size)/\Bl w0 w'):=Kb h1 R hd hd' bi h3 fun X hX=>HS.o HOK.o.1 HOK.o.2 w0 M G nm X R (h1.below hX) (h3.below hX) h4 h5;have HW1:Hid (w0.heap.size<=w1.heap.size):=by obtain⟨_,_,hc⟩:=h1;exact hc.h.b.size
 clear h1 h2 h3 h4 h5 H0 HS;have hmk:(Instr.makeInterface 60 (pT (some ⟨R,0,none⟩))).run Tp w1 = .ok (.iface 60 (pT (some ⟨R,0,none⟩))) w1:=kr;go_wp2_with fail;refine HDR.o.mono ?_;rintro o w2 ⟨⟨s2,B2,T2,rfl,hq2,hB2,hT2⟩,hb2⟩;have HQ2:Hid (tlQ T B2 T2 s2 w2/\w.heap.size+1<B2/\T2<=w2.heap.size):=⟨hq2,nL H1.o.2.lt (nT HW1.o hB2),hT2⟩
 clear hq2 hB2 hT2 HW1;have H2:Hid (Bl w w2/\blk w2 (w.heap.size+1) Z22 45):=⟨H1.o.1.trans (hb2.mono H1.o.1.size),H1.o.2.below hb2⟩
 clear hb2 HDR H1 hmk;have hfd:=LK w2 T s2 hd'
 go_wp2_with (refine Zs 45 (rfL T s2 hd').toArray (H2.o.2.there 0 _ (by rw[qR,uI];decide)) vI (uH T s2 hd') ?_;generalize hW8:World.setCells _ (w.heap.size+1) 0 _=w8;have HW8:Hid (_=w8):=hW8;clear hW8)
 have e8:=HW8.o;have hF:blk w8 (w.heap.size+1) (rfL T s2 hd') 45:=by
  rw[<- e8];have:=blk.put [] Z22 [] (rfL T s2 hd') (w:=w2) (b:=w.heap.size+1) (T:=45) (by simpa using H2.o.2) (by rw[uI];rfl);simpa using this
 have hL:=QI (P:=Tp) w8 (w.heap.size+1) 0 45 _ _ hF.load underlying45 rfl vI;refine bC results7 hL ?_;refine⟨T,s2,hd',rfl,qr ⟨HOK.o,rfl,rfl⟩,fun _=>⟨B2,T2,HQ2.o.1.keep fun k h1 _=>?_,by have:=HQ2.o.2.1;omega,by rw[<- e8,sZ];exact HQ2.o.2.2⟩,fun x=>Qy HOK.o x,?_⟩
 .rw[<- e8];exact sO _ k (by have:=HQ2.o.2.1;omega) _ _ _
 rw[<- e8];exact sW om 0 _ H2.o.1
def mvH.bel {κ κ':Nat->Nat} {w W:World} (h:mvH κ w κ' W) (h0:∀ x,x<w.heap.size->κ x=0):Bl w W:=⟨h.o.1,h.o.2.1,h.o.2.2,h.s,fun b hb=>h.k b hb (h0 b hb)⟩
def Mi (w:World) (C:Co) (s:Sl) (hd:ByteArray) (vc vf:Nat) (vd vo:Bool) (bi:Int) (h:aK w C.ho s) (hn:C.ho.le 1048576) (hj:∀ W,Calls Tp 16 #[.string hd] W fun o w'=>o = rT (aG #[I J (vc:Int),I J (vf:Int),bO vd,bO vo])/\Bl W w') (T:Co) (hd':ByteArray) (hle:GB C hd vc bi->T.ho.le 1048576)
  (hst:GB C hd vc bi->∀ κ s1 W img,hG κ C.ho s1 W->(C.p=1/\C.tx=true->img=dq C)->Calls Tp 14 #[aG (rfL C s1 hd).toArray,.string img,aG #[I J (vc:Int),I J (vf:Int),bO vd,bO vo],I J bi] W (rA W κ T hd')) :
  Calls Tp 5 #[aG (rfL C s hd).toArray,I J bi] w fun o w'=>∃ T1 s' h1,o = rT (aG (rfL T1 s' h1).toArray)/\rsR (GB C hd vc bi) T hd' T1 h1/\aK w' T1.ho s'/\Bl w w':=by
 have H0:Hid (blk ((w.alloc (.cells (rfL C s hd).toArray 45)).alloc (.cells Z22.toArray 45)) w.heap.size (rfL C s hd) 45/\blk ((w.alloc (.cells (rfL C s hd).toArray 45)).alloc (.cells Z22.toArray 45)) (w.heap.size+1) Z22 45/\Bl w ((w.alloc (.cells (rfL C s hd).toArray 45)).alloc (.cells Z22.toArray 45))):=by
  refine⟨(blk.new w _ 45).alloc _,?_,Zw.alloc pQ _⟩;have:=blk.new (w.alloc (.cells (rfL C s hd).toArray 45)) Z22 45;simpa using this
 obtain⟨v0,hv0⟩ : ∃ v0,v0=(w.alloc (.cells (rfL C s hd).toArray 45)).alloc (.cells Z22.toArray 45):=⟨_,rfl⟩
 rw[<- hv0] at H0;have HO:=ah (ze v0 C s hd vc vf vd vo (h.below H0.o.2.2) hn hj);have HS:=ah (qG hle hst);have HI:=ah (qG h hn);have HJ:=ah hj;obtain⟨x0,n0⟩ : ∃ q,(bi != 0)=q:=⟨_,rfl⟩
 obtain⟨x1,n1⟩ : ∃ q,(bi != 1)=q:=⟨_,rfl⟩
 have HLB:Hid ((x0 && x1)=false↔(bi=0\/bi=1)):=by
  show _↔_;rw[<- n0,<- n1,Bool.and_eq_false_iff];simp
 clear h hn hj hle hst;go_enter func5,ntmps5;go_upto_region 1 with fail
 change Code.wp _ _ _ _ ((w.alloc (.cells (rfL C s hd).toArray 45)).alloc (.cells Z22.toArray 45));rw[<- hv0];clear hv0;go_cut [16] (fun v wx=>∃ b,v = bO (!b || (x0 && x1))/\Hid ((b=true↔fH C hd vc)/\Bl v0 wx));case first=>
  go_wp2_with (refine ZG 45 H0.o.1.load underlying45 vI ?_);refine HO.o.mono ?_;rintro o w1 ⟨⟨b,rfl,hb⟩,hb1⟩;obtain⟨bb,ebb⟩ : ∃ bb,bb=b:=⟨b,rfl⟩
  rw[<- ebb] at hb;have HB:=ah (qG hb hb1);have HEB:=ah ebb;clear hb hb1 ebb;cases b <;> cases x0 <;> cases x1;all_goals
   go_wp2_with fail;go_meet;case rel=>exact⟨bb,by first | rw[HEB.o];rfl | (have e:=HEB.o;simp at e;rw[e];rfl),HB.o⟩
 case rest=>
 obtain⟨b,rfl,HB⟩:=hcut;obtain⟨c,ec⟩ : ∃ c,(!b || (x0 && x1))=c:=⟨_,rfl⟩
 have HCK:Hid (c=false↔GB C hd vc bi):=by show _↔_;unfold GB;rw[<- ec,<- HLB.o,<- HB.o.1];cases b <;> cases x0 <;> cases x1 <;> simp
 have HZ:Hid (blk wc w.heap.size (rfL C s hd) 45/\blk wc (w.heap.size+1) Z22 45/\Bl w wc):=⟨H0.o.1.below HB.o.2,H0.o.2.1.below HB.o.2,H0.o.2.2.trans (HB.o.2.mono H0.o.2.2.size)⟩
 rw[ec];clear ec HB HLB HO H0 n0 n1;cases c;case true=>
  have HNO:Hid (¬ GB C hd vc bi):=fun x=>by have:=HCK.o.2 x;cases this
  clear HS HCK HI HJ;go_wp2_with (refine Zs 45 Z22.toArray (HZ.o.2.1.there 0 _ (by decide)) vI (uH zCo zSl ⟨#[]⟩) ?_;generalize hW8:World.setCells _ (w.heap.size+1) 0 _=w8;have HW8:Hid (_=w8):=hW8;clear hW8)
  have e8:=HW8.o;have hF:blk w8 (w.heap.size+1) Z22 45:=by
   rw[<- e8];have:=blk.put [] Z22 [] Z22 (w:=wc) (b:=w.heap.size+1) (T:=45) (by simpa using HZ.o.2.1) rfl;simpa using this
  have hL:=QI (P:=Tp) w8 (w.heap.size+1) 0 45 _ _ hF.load underlying45 rfl vI;refine bC results5 hL ?_;refine⟨zCo,zSl,⟨#[]⟩,by rw[LX],qx ⟨HNO.o,rfl,rfl⟩,CT _,?_⟩;rw[<- e8];exact sW om 0 _ HZ.o.2.2
 case false=>
 have HOK:Hid (GB C hd vc bi):=HCK.o.1 rfl;clear HCK;have HCP:=ah (Je wc C s hd (HI.o.1.below HZ.o.2.2) HI.o.2);go_upto_region 3 with fail
 go_cut [5] (fun v wx=>∃ gb s1 κ,v = pT (some ⟨gb,0,none⟩)/\Hid (blk wx gb (rfL C s1 hd) 45/\hG κ C.ho s1 wx/\(κ gb=0/\κ (w.heap.size+1)=0/\w.heap.size+1<gb/\∀ x,x<w.heap.size->κ x=0)/\blk wx (w.heap.size+1) Z22 45/\Bl w wx));case first=>
  go_wp2_with (refine ZG 45 HZ.o.1.load underlying45 vI ?_);refine HCP.o.mono ?_;rintro o w2 ⟨s1,κ,rfl,G1⟩;have H2:Hid (hG κ C.ho s1 w2/\(κ (w.heap.size+1)=0/\w.heap.size+1<w2.heap.size/\∀ x,x<w.heap.size->κ x=0)/\blk w2 (w.heap.size+1) Z22 45/\Bl w w2):=by
   have hlt:=HZ.o.2.1.lt;have hb:=G1.o.1.2.bel G1.o.2;have hz:=hb.size;exact⟨G1.o.1.1,⟨G1.o.2 _ hlt,om,fun x hx=>G1.o.2 x om⟩,HZ.o.2.1.below hb,HZ.o.2.2.trans (hb.mono HZ.o.2.2.size)⟩
  have H5:=ah (blk.new w2 Z22 45);clear G1 HCP HZ;go_wp2_with (refine Zs 45 (rfL C s1 hd).toArray (H5.o.there 0 _ (by rw[qR,uI];decide)) vI (uH C s1 hd) ?_;generalize hW3:World.setCells _ w2.heap.size 0 _=w5;have HW3:Hid (_=w5):=hW3;clear hW3);go_meet;case rel=>
   have e:(w2.alloc (.cells Z22.toArray 45)).setCells w2.heap.size 0 (rfL C s1 hd)=w5:=HW3.o;have hb:Bl w2 w5:=by rw[<- e];exact sW (nR _) 0 _ Zw
   refine⟨_,s1,κ,rfl,?_,H2.o.1.below hb,⟨H2.o.1.no (nR _),H2.o.2.1⟩,H2.o.2.2.1.below hb,H2.o.2.2.2.trans (hb.mono H2.o.2.2.2.size)⟩;rw[<- e];exact IF H5.o C s1 hd
 case rest=>
 obtain⟨gb,s1,κ,rfl,H3⟩:=hcut;clear HCP HZ;go_wp2_with fail;refine QJ (S:=fun X=>blk X gb (rfL C s1 hd) 45) kr ?_;have hdr:Bl wc (World.drew wc):=(bW _ _).drew;have H4:Hid (hG κ C.ho s1 (World.drew wc)/\(κ gb=0/\κ (w.heap.size+1)=0/\w.heap.size+1<gb/\∀ x,x<w.heap.size->κ x=0)/\blk (World.drew wc) (w.heap.size+1) Z22 45/\Bl w (World.drew wc)):=⟨H3.o.2.1.below hdr,H3.o.2.2.1,H3.o.2.2.2.1.below hdr,H3.o.2.2.2.2.trans (hdr.mono H3.o.2.2.2.2.size)⟩
 have hS:blk (World.drew wc) gb (rfL C s1 hd) 45:=H3.o.1.below hdr;clear H3 hdr;change wpAnyH Tp _ _ _ _ _ _ _ (World.drew wc);generalize World.drew wc=v1 at *;refine wU 0 (aG (rfL C s1 hd).toArray) rfl (QL (by rfl) 45 _ rfl gb 0 rfl (rfL C s1 hd) _ (fun X h=>h.load) underlying45 rfl vI) hS ?_;simp only[Act.put,aA,aB,aC,aD,aE];refine wU 1 (aG (rfL C s1 hd).toArray) rfl (QL (by rfl) 45 _ rfl gb 0 rfl (rfL C s1 hd) _ (fun X h=>h.load) underlying45 rfl vI) hS ?_;simp only[aZ];refine tk 3 ?_;refine tk 4 ?_ (hy:=fun X hX=>by (have y:=hX.cell 21 (.string hd) rfl;go_simp;try rfl));refine tk 6 ?_;obtain⟨p1,ep⟩ : ∃ q,(C.p == 1)=q:=⟨_,rfl⟩
 have HIM:=ah (pY v1 C s1 hd p1 C.tx ep rfl H4.o.1.is (by have:=H4.o.1.n2;have:=HOK.o.1.1.h.n2;omega) (fun e=>by simp only[qw] at e;exact HOK.o.1.1.s.1 ⟨by rw[e.1] at ep;simpa using ep,e.2⟩));obtain⟨img,eim⟩ : ∃ q,(if (p1 && C.tx)=true then dq C else (⟨#[]⟩ : ByteArray))=q:=⟨_,rfl⟩
 have HIE:Hid (C.p=1/\C.tx=true->img=dq C):=fun e=>by rw[<- eim,qc];simp[<- ep,e.1,e.2]
 rw[eim] at HIM;clear eim ep;refine al 2 fun K2 hK2=>?_;go_simp;refine HIM.o.mono ?_;rintro y v2 ⟨rfl,b2⟩;have hS1:=hS.below b2;have H5:Hid (hG κ C.ho s1 v2/\(κ gb=0/\κ (w.heap.size+1)=0/\w.heap.size+1<gb/\∀ x,x<w.heap.size->κ x=0)/\blk v2 (w.heap.size+1) Z22 45/\Bl w v2):=⟨H4.o.1.below b2,H4.o.2.1,H4.o.2.2.1.below b2,H4.o.2.2.2.trans (b2.mono H4.o.2.2.2.size)⟩
 clear H4 HIM b2 hS;go_wp2_with fail;refine hK2.out _ _ hS1 (fun hS=>?_);clear hK2 K2 hS1;refine al 5 fun K2 hK2=>?_;go_simp;refine (HJ.o _).mono ?_;rintro y v3 ⟨rfl,b3⟩;have hS1:=hS.below b3;have H6:Hid (hG κ C.ho s1 v3/\(κ gb=0/\κ (w.heap.size+1)=0/\w.heap.size+1<gb/\∀ x,x<w.heap.size->κ x=0)/\blk v3 (w.heap.size+1) Z22 45/\Bl w v3):=⟨H5.o.1.below b3,H5.o.2.1,H5.o.2.2.1.below b3,H5.o.2.2.2.trans (b3.mono H5.o.2.2.2.size)⟩
 clear H5 HJ b3 hS;go_wp2_with fail;refine hK2.out _ _ hS1 (fun hS=>?_);clear hK2 K2 hS1;refine al 7 fun K2 hK2=>?_;go_simp;refine (HS.o.2 HOK.o κ s1 v3 img H6.o.1 HIE.o).mono ?_;rintro y v4 ⟨s2,κ2,rfl,G4⟩;have hS1:blk v4 gb (rfL C s1 hd) 45:=G4.o.2.blk hS H6.o.2.1.1;have H7:Hid (hG κ2 T.ho s2 v4/\blk v4 (w.heap.size+1) Z22 45/\Bl w v4/\w.heap.size+1<gb):=⟨G4.o.1,G4.o.2.blk H6.o.2.2.1 H6.o.2.1.2.1,⟨G4.o.2.o.1.trans H6.o.2.2.2.os,G4.o.2.o.2.1.trans H6.o.2.2.2.tape,G4.o.2.o.2.2.trans H6.o.2.2.2.output,nT H6.o.2.2.2.size G4.o.2.s,fun q hq=>(G4.o.2.k q (nL hq H6.o.2.2.2.size) (H6.o.2.1.2.2.2 q hq)).trans (H6.o.2.2.2.block q hq)⟩,H6.o.2.1.2.2.1⟩
 clear H6 G4 hS;go_wp2_with fail;refine hK2.out _ _ hS1 (fun hS=>?_);clear hK2 K2 hS1;refine al 8 fun K2 hK2=>?_;go_simp;refine (Je v4 T s2 hd' H7.o.1.is (HS.o.1 HOK.o)).mono ?_;rintro y v5 ⟨s3,κ3,rfl,G5⟩;have hb5:=G5.o.1.2.bel G5.o.2;have hS1:=hS.below hb5;have H8:Hid (hG κ3 T.ho s3 v5/\κ3 (w.heap.size+1)=0/\blk v5 (w.heap.size+1) Z22 45/\Bl w v5/\w.heap.size+1<gb):=⟨G5.o.1.1,G5.o.2 _ H7.o.2.1.lt,H7.o.2.1.below hb5,H7.o.2.2.1.trans (hb5.mono H7.o.2.2.1.size),H7.o.2.2.2⟩
 clear H7 G5 hS hb5;go_wp2_with fail;refine hK2.out _ _ hS1 (fun hS=>?_);clear hK2 K2 hS1;refine al 9 fun K2 hK2=>?_;rw[qc (by rfl)];refine QT (P:=Tp) 45 (.tmp 4) (.tmp 28) rfl (w.heap.size+1) 0 (rfL T s3 hd').toArray rfl rfl (H8.o.2.2.1.there 0 _ (by rw[qR,uI];decide)) vI (uH T s3 hd') ?_;have hS6:blk (World.setCells v5 (w.heap.size+1) 0 (rfL T s3 hd')) gb (rfL C s1 hd) 45:=hS.other (by have:=H8.o.2.2.2.2;omega) _ _;refine hK2.out _ _ hS6 (fun _=>?_);have H9:Hid (blk (World.setCells v5 (w.heap.size+1) 0 (rfL T s3 hd')) (w.heap.size+1) (rfL T s3 hd') 45/\aK (World.setCells v5 (w.heap.size+1) 0 (rfL T s3 hd')) T.ho s3/\Bl w (World.setCells v5 (w.heap.size+1) 0 (rfL T s3 hd'))):=⟨IF H8.o.2.2.1 T s3 hd',(H8.o.1.cells H8.o.2.1 _ _).is,sW om 0 _ H8.o.2.2.2.1⟩
 clear hK2 K2 hS6 H8 hS;refine QH kr ?_ _;generalize World.setCells v5 (w.heap.size+1) 0 (rfL T s3 hd')=w8 at *;go_wp2_with fail;refine bC results5 (At H9.o.1) ?_;exact⟨T,s3,hd',rfl,qr ⟨HOK.o,rfl,rfl⟩,H9.o.2⟩
def vA (w:World) (C:Co) (s:Sl) (hd:ByteArray) (hc:∀ X,Bl w X->Calls Tp 17 #[aG (coL C s).toArray] X fun o w'=>∃ s':Wh,o = rT (aG (coL C s'.sl).toArray)/\St X.heap.size w' (fun W=>aK W C.ho s'.sl)/\whS X.heap.size w'.heap.size w' s'/\whD s'/\dz s'.sl/\Bl X w') :
  Calls Tp 6 #[aG (rfL C s hd).toArray] w fun o w'=>∃ (s':Wh) (B:Nat),o = rT (aG (rfL C s'.sl hd).toArray)/\w.heap.size<=B/\St B w' (fun W=>aK W C.ho s'.sl)/\whS B w'.heap.size w' s'/\whD s'/\dz s'.sl/\Bl w w':=by
 obtain⟨v0,hv0⟩ : ∃ v0,v0=((w.alloc (.cells (rfL C s hd).toArray 33)).alloc (.cells Z22.toArray 45)).alloc (.cells Z22.toArray 45):=⟨_,rfl⟩
 have H0:Hid (blk v0 w.heap.size (rfL C s hd) 33/\blk v0 (w.heap.size+1) Z22 45/\blk v0 (w.heap.size+2) Z22 45/\Bl w v0):=by
  rw[hv0];refine⟨((blk.new w _ 33).alloc _).alloc _,?_,?_,(Zw.alloc pQ _).alloc (by simp;omega) _⟩
  .have:=(blk.new (w.alloc (.cells (rfL C s hd).toArray 33)) Z22 45).alloc (.cells Z22.toArray 45);simpa using this
  .have:=blk.new ((w.alloc (.cells (rfL C s hd).toArray 33)).alloc (.cells Z22.toArray 45)) Z22 45;simpa using this
 have HC:=ah hc;clear hc;go_enter func6,ntmps6;go_upto_region 2 with fail
 change Code.wp _ _ _ _ (((w.alloc (.cells (rfL C s hd).toArray 33)).alloc (.cells Z22.toArray 45)).alloc (.cells Z22.toArray 45));rw[<- hv0];clear hv0;go_wp2_with (refine ZG 31 (eH H0.o.1) underlying31 (Cv C s) ?_);refine (HC.o _ H0.o.2.2.2).mono ?_;rintro o w1 ⟨s',rfl,q1,q2,q3,q4,hb1⟩;have H1:Hid (blk w1 w.heap.size (rfL C s hd) 33/\blk w1 (w.heap.size+1) Z22 45/\blk w1 (w.heap.size+2) Z22 45/\Bl w w1):=⟨H0.o.1.below hb1,H0.o.2.1.below hb1,H0.o.2.2.1.below hb1,H0.o.2.2.2.trans (hb1.mono H0.o.2.2.2.size)⟩
 have HQ:=ah (qG q1 (qG q2 (qG q3 (qG q4 H0.o.2.2.1.lt))))
 clear q1 q2 q3 q4 hb1 H0 HC;go_upto_region 3 with (refine Zs 43 (coL C s'.sl).toArray (H1.o.2.2.1.there 0 _ (by rw[qR,cL];decide)) (nO C s'.sl) (cO C s'.sl) ?_;generalize hW2:World.setCells _ (w.heap.size+2) 0 _=w2;have HW2:Hid (_=w2):=hW2;clear hW2)
 have H2:Hid (blk w2 w.heap.size (rfL C s hd) 33/\blk w2 (w.heap.size+1) Z22 45/\blk w2 (w.heap.size+2) (rfL C s'.sl ⟨#[]⟩) 45/\Bl w w2/\(∀ q,q≠w.heap.size+2->w2.heap[q]?=w1.heap[q]?)/\w2.heap.size=w1.heap.size):=by
  have e:=HW2.o;rw[<- e];refine⟨H1.o.1.other om _ _,H1.o.2.1.other om _ _,?_,sW om 0 _ H1.o.2.2.2,fun q hq=>sO _ q hq _ _ _,sZ ..⟩;have h':blk w1 (w.heap.size+2) ([]++Z21++[.string ⟨#[]⟩]) 45:=H1.o.2.2.1;have:=blk.put [] Z21 [.string ⟨#[]⟩] (coL C s'.sl) h' (by rw[cL];rfl);exact this
 clear HW2 H1;have y21:=H2.o.1.cell 21 (.string hd) rfl;have z21:=H2.o.2.2.1.cell 21 (.string ⟨#[]⟩) rfl;have f21:=H2.o.2.2.1.free 21;go_upto_region 4 with fail
 have H3:Hid (blk (w2.setCell ⟨w.heap.size+2,21,none⟩ (.string hd)) (w.heap.size+1) Z22 45/\blk (w2.setCell ⟨w.heap.size+2,21,none⟩ (.string hd)) (w.heap.size+2) (rfL C s'.sl hd) 45/\Bl w (w2.setCell ⟨w.heap.size+2,21,none⟩ (.string hd))/\(∀ q,q≠w.heap.size+2->(w2.setCell ⟨w.heap.size+2,21,none⟩ (.string hd)).heap[q]?=w1.heap[q]?)/\(w2.setCell ⟨w.heap.size+2,21,none⟩ (.string hd)).heap.size=w1.heap.size):=by
  refine⟨H2.o.2.1.setOther om 21 _,?_,H2.o.2.2.2.1.setCell (by show w.heap.size<=w.heap.size+2;omega) _,fun q hq=>(QA w2 ⟨w.heap.size+2,21,none⟩ q _ hq).trans (H2.o.2.2.2.2.1 q hq),by simpa using H2.o.2.2.2.2.2⟩;have e:(rfL C s'.sl ⟨#[]⟩).set 21 (.string hd)=rfL C s'.sl hd:=rfl;rw[<- e];exact H2.o.2.2.1.set 21 (.string hd)
 clear H2 y21 z21 f21;generalize w2.setCell ⟨w.heap.size+2,21,none⟩ (.string hd)=w3 at *;go_wp2_with (first
  | (refine ZG 45 H3.o.2.1.load underlying45 vI ?_)
  | (refine Zs 45 (rfL C s'.sl hd).toArray (H3.o.1.there 0 _ (by rw[qR,uI];decide)) vI (uH _ _ _) ?_;generalize hW8:World.setCells _ (w.heap.size+1) 0 _=w8;have HW8:Hid (_=w8):=hW8;clear hW8))
 have e8:=HW8.o;have hF:blk w8 (w.heap.size+1) (rfL C s'.sl hd) 45:=by
  rw[<- e8];have:=blk.put [] Z22 [] (rfL C s'.sl hd) (w:=w3) (b:=w.heap.size+1) (T:=45) (by simpa using H3.o.1) (by rw[uI];rfl);simpa using this
 have hL:=QI (P:=Tp) w8 (w.heap.size+1) 0 45 _ _ hF.load underlying45 rfl vI;refine bC results6 hL ?_;have hlt:=HQ.o.2.2.2.2
 have hag:∀ q,v0.heap.size<=q->w8.heap[q]?=w1.heap[q]?:=fun q hq=>by
  rw[<- e8];exact (sO _ q om _ _ _).trans (H3.o.2.2.2.1 q om)
 have hsz:w8.heap.size=w1.heap.size:=by rw[<- e8,sZ];exact H3.o.2.2.2.2
 refine⟨s',rfl,v0.heap.size,om,fun W hW=>HQ.o.1 W fun k h1 h2=>(hW k h1 om).trans (hag k h1),?_,HQ.o.2.2.1,HQ.o.2.2.2.1,?_⟩
 .rw[hsz];exact HQ.o.2.1.same fun x h1 _=>hag x h1
 .rw[<- e8];exact sW om 0 _ H3.o.2.2.1
end Go.Proofs.YtgfolecanghhhaaGreat
