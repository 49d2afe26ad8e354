import Derived.Test.YtnfmjckkibdcaaaGreatDoorK43
import Derived.Test.YtnfmjckkibdcaaaGreatDoorK36
import Derived.StillTailTactics
import Derived.Shelf.Strings.Prefix
import Derived.Test.YtnfmjckkibdcaaaGreatDoorProg
namespace Go.Proofs.YtnfmjckkibdcaaaGreatDoor
open Option renaming none->nn,some->sQ
open Go renaming World->Wd
set_option maxRecDepth 20000
open Go.RowKit
set_option linter.all false
set_option maxHeartbeats 16000000
open Go.Value renaming int->I,slice->sL,bool->bO,pointer->pT,agg->aG
open Go.IntKind renaming i64->J
open Go.Ending renaming returned->rT
open Go.Proofs.Tryz renaming prog->Tp
section
variable {w:Wd} {b M:Nat} {N cu:Int} {T:TypeId}
def ocL (M:Nat) (S:Sc) (N cu:Int) (o:Os):List Value:=[pT (sQ ⟨M,0,nn⟩)]++scL S o.a o.n o.k++pk3 N o.aw o.nw o.kw cu
def osS (o:Os) (s:Sl):Os:=⟨s,o.a,o.n,o.k,o.aw,o.nw,o.kw⟩
def acO (C:Co) (s:Sl) (S:Sc) (N cu:Int) (o:Os):List Value:=Z22++opL C S N cu (osS o s)
def vr (C:Co) (s:Sl) (S:Sc) (N cu:Int) (o:Os):(acO C s S N cu o).length=57:=rfl
def Cn (C:Co) (s:Sl) (S:Sc) (N cu:Int) (o:Os):(acO C s S N cu o).toArray.all (·.oneCell')=true:=QL (by simp[acO,Z22,opL,coL,scL,pk3,Value.oneCell'])
def A7 {S:Sc} {o:Os} (h:blk w b (ocL M S N cu o) T):w.rangeAt b 1 (scL S o.a o.n o.k):=blk.loadAt [pT (sQ ⟨M,0,nn⟩)] (scL S o.a o.n o.k) (pk3 N o.aw o.nw o.kw cu) h
def DC {S:Sc} {o:Os} (h:blk w b (ocL M S N cu o) T):w.rangeAt b 12 [I J N,sL o.aw o.nw o.kw]:=blk.loadAt ([pT (sQ ⟨M,0,nn⟩)]++scL S o.a o.n o.k) [I J N,sL o.aw o.nw o.kw] [I J cu] (by have:=h;unfold ocL pk3 at this;rw[qp _ _ [Value.int .i64 cu]];exact this)
def Ai (w:Wd) (C:Co) (s:Sl) (S:Sc) (N cu:Int) (o:Os):(Instr.build 54 #[(0,aG (coL C s).toArray),(1,aG (scL S o.a o.n o.k).toArray),(2,.agg [I J N,sL o.aw o.nw o.kw].toArray),(3,I J cu)]).run Tp w = .ok (aG (opL C S N cu (osS o s)).toArray) w:=kr
def Ca (w:Wd) (C:Co) (s:Sl) (S:Sc) (N cu:Int) (o:Os):(Instr.build 88 #[(1,aG (opL C S N cu (osS o s)).toArray)]).run Tp w = .ok (aG (acO C s S N cu o).toArray) w:=kr
def FK (w:Wd) (a:Addr):(Instr.typeAssert (.iface 90 (pT (sQ a))) 133 84 true).run Tp w = .ok (.tuple #[.pointer nn,bO false]) w:=kr
def FJ (w:Wd) (a:Addr):(Instr.typeAssert (.iface 90 (pT (sQ a))) 133 90 true).run Tp w = .ok (.tuple #[pT (sQ a),bO true]) w:=kr
def pW (w : Wd) (R : Nat) : (method 495 90 (pT (sQ ⟨R, 0, nn⟩)) "loop.example/s01647/impl.core").run Tp w = (do let v <- loadVar 127 ⟨R, 0, nn⟩; pure ((363 : FuncId), v) : Sem (FuncId × Value)).run Tp w := by kernel_rfl
def ta (w : Wd) (M R : Nat) (y0 : w.cell? ⟨R, 0, nn⟩ = sQ (pT (sQ ⟨M, 0, nn⟩))) : (method 495 90 (pT (sQ ⟨R, 0, nn⟩)) "loop.example/s01647/impl.core").run Tp w = .ok (363, pT (sQ ⟨M, 0, nn⟩)) w := by
 rw[pW];have:(loadVar 127 ⟨R,0,nn⟩).run Tp w = .ok (pT (sQ ⟨M,0,nn⟩)) w:=by go_simp
 rw[Q8,this];rfl
def xz (W:Wd) (M R:Nat) (S:Sc) (N cu:Int) (o0:Os) (C:Co) (Q:Nat->Nat->Sl->Wd->Prop) (hQ:∀ B T s w1 w2,(∀ k,B<=k->k<T->w2.heap[k]?=w1.heap[k]?)->Q B T s w1->Q B T s w2) (hr:blk W R (ocL M S N cu o0) 137) (ht:∀ X,Bl W X->Calls Tp 63 #[pT (sQ ⟨M,0,nn⟩)] X fun o w'=>∃ s',o = rT (aG (coL C s').toArray)/\Q X.heap.size w'.heap.size s' w'/\Bl X w') :
  Calls Tp 27 #[.iface 90 (pT (sQ ⟨R,0,nn⟩))] W fun o w'=>∃ s' B T,o = rT (aG (acO C s' S N cu o0).toArray)/\Q B T s' w'/\W.heap.size<=B/\T<=w'.heap.size/\Bl W w':=by
 have HR:Hid (blk W R (ocL M S N cu o0) 137):=hr;have HT:Hid (∀ X,Bl W X->Calls Tp 63 #[pT (sQ ⟨M,0,nn⟩)] X fun o w'=>∃ s',o = rT (aG (coL C s').toArray)/\Q X.heap.size w'.heap.size s' w'/\Bl X w'):=ht;have HQ:=ah hQ;clear hQ;have HA:Hid (Bl W (W.alloc (.cells Z57.toArray 88))/\blk (W.alloc (.cells Z57.toArray 88)) W.heap.size Z57 88):=⟨qw,blk.new W _ 88⟩
 obtain⟨V0,hV0⟩ : ∃ V0,V0=W.alloc (.cells Z57.toArray 88):=⟨_,rfl⟩
 rw[<- hV0] at HA;obtain⟨B0,hB0⟩ : ∃ B0,V0.heap.size=B0:=⟨_,rfl⟩
 have HB0:=ah hB0;have HB1:Hid (W.heap.size<B0):=by rw[<- hB0];exact HA.o.2.lt
 clear hB0;have y0:=(hr.below HA.o.1).cell 0 (pT (sQ ⟨M,0,nn⟩)) rfl;have hm:=ta V0 M R y0;clear hr ht y0;go_enter Tryz.func27,Tryz.ntmps27;go_upto_region 1 with fail
 change Code.wp _ _ _ _ (W.alloc (.cells Z57.toArray 88));rw[<- hV0];clear hV0;go_wp2_with (go_at_call 363;refine (Ab _ _).mono ?_;rintro o w1 ⟨rfl,rfl⟩);refine (HT.o _ HA.o.1).mono ?_;rintro o w1 ⟨s1,rfl,hq1,hb1⟩;rw[HB0.o] at hq1;have HQ1:Hid (Q B0 w1.heap.size s1 w1/\W.heap.size<B0):=⟨hq1,HB1.o⟩
 clear hq1 HB0 HB1;have H1:=(show Hid _ from qH (HA.o.1.trans (hb1.mono HA.o.1.size)) (HA.o.2.below hb1))
 clear hb1 HA HT hm;have H2:Hid (Bl W (w1.alloc (.cells zY.toArray 43))/\blk (w1.alloc (.cells zY.toArray 43)) W.heap.size Z57 88/\blk (w1.alloc (.cells zY.toArray 43)) w1.heap.size Z21 43/\W.heap.size<w1.heap.size):=⟨H1.o.1.alloc H1.o.1.size _,H1.o.2.alloc _,blk.new w1 _ 43,H1.o.2.lt⟩
 clear H1;go_upto_region 2 with (refine QE (P:=Tp) rfl 43 _ _ rfl w1.heap.size 0 (coL C s1).toArray rfl rfl (H2.o.2.2.1.there 0 _ (by rw[qS,cL];decide)) (nO C s1) (cO C s1) ?_;generalize hW2:World.setCells _ w1.heap.size 0 _=w2;have HW2:Hid (_=w2):=hW2;clear hW2)
 have H3:Hid (Bl W w2/\blk w2 W.heap.size Z57 88/\blk w2 w1.heap.size (coL C s1) 43/\W.heap.size<w1.heap.size/\blk w2 R (ocL M S N cu o0) 137):=by
  have e:=HW2.o;have hb:Bl W w2:=by rw[<- e];exact sW (by have:=H2.o.2.2.2;omega) 0 _ H2.o.1
  refine⟨hb,?_,?_,H2.o.2.2.2,HR.o.below hb⟩
  .rw[<- e];exact H2.o.2.1.other (by have:=H2.o.2.2.2;omega) _ _
  .rw[<- e];have:=blk.put [] Z21 [] (coL C s1) (w:=w1.alloc (.cells zY.toArray 43)) (b:=w1.heap.size) (T:=43) (by simpa using H2.o.2.2.1) (by rw[cL];rfl);simpa using this
 have HQ2:Hid (Q B0 w1.heap.size s1 w2/\W.heap.size<B0/\w1.heap.size<=w2.heap.size):=by
  have e:=HW2.o;have hb:Bl w1 w2:=by rw[<- e];exact sW (nR _) 0 _ qw
  exact⟨HQ.o _ _ _ _ _ (fun k _ h2=>hb.block k h2) HQ1.o.1,HQ1.o.2,hb.size⟩
 clear H2 HW2 HR HQ1;have hta:=FK w2 ⟨R,0,nn⟩;have htb:=FJ w2 ⟨R,0,nn⟩;go_wp2_with fail;refine wp_region_still_tail 15 kr kr ?_;change wpStill Tp _ (World.drew w2) (fun a'=>wpList Tp _ _ _ a' (World.drew w2)) _ _;have H4:Hid (Bl W (World.drew w2)/\blk (World.drew w2) W.heap.size Z57 88/\blk (World.drew w2) w1.heap.size (coL C s1) 43/\blk (World.drew w2) R (ocL M S N cu o0) 137):=⟨H3.o.1.drew,H3.o.2.1,H3.o.2.2.1,H3.o.2.2.2.2⟩
 have y14:(World.drew w2).cell? ⟨R,14,nn⟩=sQ (I J cu):=H4.o.2.2.2.cell 14 _ rfl;clear hta htb H3;have HQ3:Hid (Q B0 w1.heap.size s1 (World.drew w2)/\W.heap.size<B0/\w1.heap.size<=(World.drew w2).heap.size):=⟨HQ.o _ _ _ w2 (World.drew w2) (fun k _ _=>rfl) HQ2.o.1,HQ2.o.2⟩
 clear HQ2;generalize World.drew w2=w3 at *;simp only[List.take_succ_cons,List.take_zero,List.drop_succ_cons,List.drop_zero];refine dK (by rfl) 43 _ rfl w1.heap.size 0 rfl (coL C s1) _ H4.o.2.2.1.load Tryz.underlying43 rfl (cy C s1) ?_;simp only[Act.put];still_step
 still_step
 still_step
 refine dK (by rfl) 49 _ rfl R 1 rfl (scL S o0.a o0.n o0.k) _ (A7 H4.o.2.2.2) Tryz.underlying49 rfl (kJ _ _ _ _) ?_;simp only[Act.put];still_step
 still_step
 still_step
 refine dK (by rfl) 52 _ rfl R 12 rfl [I J N,sL o0.aw o0.nw o0.kw] _ (DC H4.o.2.2.2) Tryz.underlying52 rfl (Dh N _ _ _) ?_;simp only[Act.put];still_step
 still_step
 still_step
 still_step
 refine iH (by rfl) 54 _ rfl _ (by simp[go_sem]) _ (Ai w3 C s1 S N cu o0) ?_;simp only[Act.put];refine iH (by rfl) 88 _ rfl _ (by simp[go_sem]) _ (Ca w3 C s1 S N cu o0) ?_;simp only[Act.put];refine wpStill_nil ?_
 go_wp2_with (refine QE (P:=Tp) rfl 88 _ _ rfl W.heap.size 0 (acO C s1 S N cu o0).toArray rfl rfl (H4.o.2.1.there 0 _ (by rw[qS,vr];decide)) Ez (Cn C s1 S N cu o0) ?_;generalize hW8:World.setCells _ W.heap.size 0 _=w8;have HW8:Hid (_=w8):=hW8;clear hW8)
 have e8:=HW8.o;have hF:blk w8 W.heap.size (acO C s1 S N cu o0) 88:=by
  rw[<- e8];have:=blk.put [] Z57 [] (acO C s1 S N cu o0) (w:=w3) (b:=W.heap.size) (T:=88) (by simpa using H4.o.2.1) (by rw[vr];rfl);simpa using this
 have hL:=QJ (P:=Tp) w8 W.heap.size 0 88 _ _ hF.load Tryz.underlying88 rfl Ez;refine bC Tryz.results27 hL ?_;refine⟨s1,rfl,B0,w1.heap.size,HQ.o _ _ _ _ _ (fun k h1 _=>?_) HQ3.o.1,by have:=HQ3.o.2.1;omega,?_,?_⟩
 .rw[<- e8];exact sO _ k (by have:=HQ3.o.2.1;omega) _ _ _
 .rw[<- e8,sZ];exact HQ3.o.2.2
 .rw[<- e8];exact sW om 0 _ H4.o.1
end
def uO (M:Nat) (S:Sc) (N cu:Int) (o:Os):(ocL M S N cu o).length=15:=rfl
def mx.told {w0:Wd} {M:Nat} {G:Lg} {f1 f3 nm:Nat} {C:Co} {W:Wd} (h:mx w0 M G f1 f3 nm C W):Calls Tp 63 #[pT (some ⟨M,0,none⟩)] W (xK W C):=by
 obtain⟨_,_,h⟩:=h;exact wt W M G.P C h.m (fun Y hY=>(h.h.below hY).told)
def tlQ (C:Co) (B T:Nat) (s':Sl) (w:Wd):Prop:=∃ s4:Wh,s'=s4.sl/\(∀ W:Wd,(∀ k,B<=k->k<T->W.heap[k]?=w.heap[k]?)->aK W C.ho s4.sl/\whS B T W s4)/\whD s4/\whE s4
def tlQ.keep {C:Co} {B T:Nat} {s':Sl} {w1 w2:Wd} (he:∀ k,B<=k->k<T->w2.heap[k]?=w1.heap[k]?) (h:tlQ C B T s' w1):tlQ C B T s' w2:=by
 obtain⟨s4,e,f,g⟩:=h;exact⟨s4,e,fun W hW=>f W fun k a b=>(hW k a b).trans (he k a b),g⟩
def tlQ.told {C:Co} {X:Wd} {o:Ending} {w':Wd} (h:xK X C o w'):∃ s',o = rT (aG (coL C s').toArray)/\tlQ C X.heap.size w'.heap.size s' w'/\Below X.heap.size X w':=by
 obtain⟨s4,e1,e2,e3,e4,e5,e6⟩:=h;exact⟨s4.sl,e1,⟨s4,rfl,fun W hW=>⟨e2 W hW,e3.same hW⟩,e4,e5⟩,e6⟩
def zw (e:Bool) (i:Nat) (r:Bool) (d:Int) (l:List Nat) (hv:vB e i r d l.length=true):lt (eV e i r d l.length l)=imZ e i r d l.length l:=by
 unfold eV imZ ie;rw[zc hv,zc hv];refine ix _ fun x hx=>?_;rcases List.mem_append.1 hx with h|h
 .rcases M.Em _ (cQ e i r d.toNat l) x h with q | q <;> omega
 .have:=(List.mem_replicate.1 h).2;omega
structure yA (B:Nat) (T:Co) (S:Sc) (ws:List Nat) (q:Os) (W:Wd):Prop where
 d:aa W B (sL q.a q.n q.k) S.l
 dn:q.n=S.l.length
 w:an W B (sL q.aw q.nw q.kw) ws
 wn:q.nw=ws.length
 h:∃ B1 E1,tlQ T B1 E1 q.s W/\B<=B1/\E1<=W.heap.size/\(∀ g,(Value.slice q.a q.n q.k).ownBlock=some g->g<B1)/\∀ g,(Value.slice q.aw q.nw q.kw).ownBlock=some g->g<B1
section
variable {w:World} {b:Nat} {T:Co} {N cu:Int} {Ty:TypeId}
def ku {S:Sc} {q:Os} (h:blk w b (opL T S N cu q) Ty):w.rangeAt b 0 (coL T q.s):=blk.loadAt [] (coL T q.s) (scL S q.a q.n q.k++pk3 N q.aw q.nw q.kw cu) (by have:=h;unfold opL at this;rw[List.nil_append,<- qp];exact this)
def kt {S:Sc} {q:Os} (h:blk w b (opL T S N cu q) Ty):w.rangeAt b 21 (scL S q.a q.n q.k):=blk.loadAt (coL T q.s) (scL S q.a q.n q.k) (pk3 N q.aw q.nw q.kw cu) h
def od {S:Sc} {q:Os} (h:blk w b (opL T S N cu q) Ty):w.rangeAt b 32 [I J N,sL q.aw q.nw q.kw]:=blk.loadAt (coL T q.s++scL S q.a q.n q.k) [I J N,sL q.aw q.nw q.kw] [I J cu] (by have:=h;unfold opL pk3 at this;rw[qp _ _ [Value.int .i64 cu]];exact this)
def ur (N:Int) (a:Option Addr) (n k:Nat):(Tp.info? 52).map (·.size)=some ([I J N,sL a n k]:List Value).length:=kr
def xe (W:World) (T:Co) (S:Sc) (N cu:Int) (ws:List Nat) (o1 o2:Os) (h1:eN W T S ws o1) (h2:eN W T S ws o2) (hm:T.ho.le 1048576) (hs:S.l.length<=1048576) (hw:ws.length<=1048576) :
  Calls Tp 9 #[aG (opL T S N cu o1).toArray,aG (opL T S N cu o2).toArray] W fun o w'=>o = rT (bO true)/\Below W.heap.size W w':=by
 have H0:Hid (blk ((W.alloc (.cells (opL T S N cu o1).toArray 54)).alloc (.cells (opL T S N cu o2).toArray 54)) W.heap.size (opL T S N cu o1) 54/\blk ((W.alloc (.cells (opL T S N cu o1).toArray 54)).alloc (.cells (opL T S N cu o2).toArray 54)) (W.heap.size+1) (opL T S N cu o2) 54/\Below W.heap.size W ((W.alloc (.cells (opL T S N cu o1).toArray 54)).alloc (.cells (opL T S N cu o2).toArray 54))):=by
  refine⟨(blk.new W _ 54).alloc _,?_,qw.alloc pQ _⟩;have:=blk.new (W.alloc (.cells (opL T S N cu o1).toArray 54)) (opL T S N cu o2) 54;simpa using this
 obtain⟨v0,hv0⟩ : ∃ v0,v0=(W.alloc (.cells (opL T S N cu o1).toArray 54)).alloc (.cells (opL T S N cu o2).toArray 54):=⟨_,rfl⟩
 rw[<- hv0] at H0;have HO:Hid (∀ X,Below W.heap.size W X->eN X T S ws o1/\eN X T S ws o2):=fun X hX=>⟨h1.below hX,h2.below hX⟩
 have HM:=ah (qH hm (qH hs hw));clear h1 h2 hm hs hw;go_enter Tryz.func9,Tryz.ntmps9;go_upto_region 1 with fail
 change Code.wp _ _ _ _ ((W.alloc (.cells (opL T S N cu o1).toArray 54)).alloc (.cells (opL T S N cu o2).toArray 54));rw[<- hv0]
 clear hv0;go_wp2_with (first
  | (refine qG 43 (ku H0.o.1) Tryz.underlying43 (cy _ _) ?_)
  | (refine qG 43 (ku H0.o.2.1) Tryz.underlying43 (cy _ _) ?_))
 refine (Fj _ T o1.s o2.s (HO.o _ H0.o.2.2).1.h (HO.o _ H0.o.2.2).2.h HM.o.1).mono ?_;rintro o w1 ⟨rfl,hb1⟩;have H1:Hid (blk w1 W.heap.size (opL T S N cu o1) 54/\blk w1 (W.heap.size+1) (opL T S N cu o2) 54/\Below W.heap.size W w1):=⟨H0.o.1.below hb1,H0.o.2.1.below hb1,H0.o.2.2.trans (hb1.mono H0.o.2.2.size)⟩
 clear hb1 H0;go_wp2_with (first
  | (refine qG 49 (kt H1.o.1) Tryz.underlying49 (kJ _ _ _ _) ?_)
  | (refine qG 49 (kt H1.o.2.1) Tryz.underlying49 (kJ _ _ _ _) ?_))
 refine (rH _ S _ _ _ (HO.o _ H1.o.2.2).1.d _ _ _ (HO.o _ H1.o.2.2).2.d (by have:=(HO.o _ H1.o.2.2).1.d.len;have:=HM.o.2.1;omega)).mono ?_;rintro o w2 ⟨rfl,hb2⟩;have H2:Hid (blk w2 W.heap.size (opL T S N cu o1) 54/\blk w2 (W.heap.size+1) (opL T S N cu o2) 54/\Below W.heap.size W w2):=⟨H1.o.1.below hb2,H1.o.2.1.below hb2,H1.o.2.2.trans (hb2.mono H1.o.2.2.size)⟩
 clear hb2 H1;go_wp2_with (first
  | (refine qG 52 (od H2.o.1) Tryz.underlying52 (ur _ _ _ _) ?_)
  | (refine qG 52 (od H2.o.2.1) Tryz.underlying52 (ur _ _ _ _) ?_))
 refine (mz _ N _ _ _ ws (HO.o _ H2.o.2.2).1.w _ _ _ (HO.o _ H2.o.2.2).2.w (by have:=(HO.o _ H2.o.2.2).1.w.len;have:=HM.o.2.2;omega)).mono ?_;rintro o w3 ⟨rfl,hb3⟩;have H3:Hid (blk w3 W.heap.size (opL T S N cu o1) 54/\blk w3 (W.heap.size+1) (opL T S N cu o2) 54/\Below W.heap.size W w3):=⟨H2.o.1.below hb3,H2.o.2.1.below hb3,H2.o.2.2.trans (hb3.mono H2.o.2.2.size)⟩
 clear hb3 H2;have z1:=H3.o.1.cell 34 (I J cu) rfl;have z2:=H3.o.2.1.cell 34 (I J cu) rfl;go_wp2_with fail;go_ret;exact⟨rfl,H3.o.2.2⟩
end
section
variable {w:World} {B n k:Nat}
def aa.rw {g:Nat} {l:List Nat} (h:aa w B (sL (some ⟨g,0,none⟩) n k) l) (hn:n=l.length):B<=g/\g<w.heap.size/\n<=k/\∃ f,cm w g n f:=by
 obtain⟨h0,h1|⟨g',cap,cur,e,hb,hh,hc,hm,hs,ht⟩⟩:=h
 .cases h1.1
 .cases e;have hg:w.heap[g]?=some (.cells cur 5):=hh;refine⟨hb,aJ hg,om,fun t=>l.getD t 0,fun t ht'=>?_,fun t _=>?_⟩
  .have hlen:(bv l).length=l.length:=by simpa using h0
   have e1:cur.toList[t]?=(bv l)[t]?:=by
    rw[<- ht,List.getElem?_take,zc om]
   rw[nt l t om] at e1;have e2:cur[t]?=some (I .u8 (l[t]:Int)):=by rw[<- qT];exact e1
   simp[World.cell?,hg,e2,ql,qA (show t<l.length by omega)]
  .simp[World.frozen?,hg]
def Dp {S:Sc} {a:Option Addr} (h:aa w B (sL a n k) S.l) (hB:B<=w.heap.size) (hn:n=S.l.length) (hl:S.l.length<=1048576) (c:Nat) (hc:c<=10000000000000000) :
  Calls Tp 33 #[aG (scL S a n k).toArray,I J (c:Int)] w fun o w'=>o = rT (I J ((c+n:Nat):Int))/\Below B w w'/\(∀ b,b<w.heap.size->(∀ g,(Value.slice a n k).ownBlock=some g->g≠b)->w'.heap[b]?=w.heap[b]?)/\∀ W2,(∀ g,(Value.slice a n k).ownBlock=some g->W2.heap[g]?=w'.heap[g]?)->w'.heap.size<=W2.heap.size->Calls Tp 36 #[aG (scL S a n k).toArray,I J (c:Int)] W2 fun o w2=>o = rT (I J ((c+n:Nat):Int))/\Below W2.heap.size W2 w2:=by
 rcases G.mU h with⟨rfl,rfl,rfl,_⟩|⟨g,rfl⟩
 .refine (oq w S c).mono ?_;rintro o w' ⟨rfl,hb⟩;exact⟨rfl,hb.mono hB,fun b h1 _=>hb.block b h1,fun W2 _ _=>GW W2 S c⟩
 .obtain⟨h1,h2,h3,f,hf⟩:=h.rw hn;refine (oo w S g n k c f hf h2 h3 om hc).mono ?_;rintro o w' ⟨rfl,hm⟩;refine⟨rfl,hm.bel.mono h1,fun b q1 q2=>hm.oth b (fun e=>q2 g rfl e.symm) q1,fun W2 hW2 hz=>?_⟩;have e:=hW2 g rfl;have hs:=hm.bel.size;refine oD W2 S g n k c ⟨fun t ht=>(dt e t).trans (hm.row.cell t ht),fun t ht=>?_⟩ om h3 om hc;have:=hm.row.free t ht;unfold World.frozen? at this ⊢;rw[e];exact this
def MKO (B:Nat) (T:Co) (S:Sc) (N cu:Int) (q:Os) (w:World):Prop:=∀ W,(∀ x,B<=x->x<w.heap.size->W.heap[x]?=w.heap[x]?)->w.heap.size<=W.heap.size->Calls Tp 12 #[aG (opL T S N cu q).toArray,I J 1] W fun o w1=>∃ k:Nat,o = rT (I J (k:Int))/\Below B W w1/\(∀ x,w.heap.size<=x->x<W.heap.size->w1.heap[x]?=W.heap[x]?)/\∀ W2,Below w1.heap.size w1 W2->Calls Tp 13 #[aG (opL T S N cu q).toArray,I J 1] W2 fun o w2=>o = rT (I J (k:Int))/\Below W2.heap.size W2 w2
def DV (W:World) (T:Co) (S:Sc) (N cu:Int) (q:Os) (k1 k2 k3:Nat)
  (h1:∀ X,Below W.heap.size W X->Calls Tp 35 #[aG (coL T q.s).toArray,I J 1] X fun o w'=>o = rT (I J (k1:Int))/\Below X.heap.size X w')
  (h2:∀ X,Below W.heap.size W X->Calls Tp 36 #[aG (scL S q.a q.n q.k).toArray,I J (k1:Int)] X fun o w'=>o = rT (I J (k2:Int))/\Below X.heap.size X w')
  (h3:∀ X,Below W.heap.size W X->Calls Tp 37 #[pkV N q.aw q.nw q.kw,I J (k2:Int)] X fun o w'=>o = rT (I J (k3:Int))/\Below X.heap.size X w') :
  Calls Tp 13 #[aG (opL T S N cu q).toArray,I J 1] W fun o w'=>o = rT (I J (k3:Int))/\Below W.heap.size W w':=by
 have H0:Hid (blk (W.alloc (.cells (opL T S N cu q).toArray 54)) W.heap.size (opL T S N cu q) 54/\Below W.heap.size W (W.alloc (.cells (opL T S N cu q).toArray 54))):=⟨blk.new W _ 54,qw⟩
 have HA:=ah h1;have HB:=ah h2;have HC:=ah h3;have n1:¬ (k1:Int)<0:=om;have n2:¬ (k2:Int)<0:=om;have n3:¬ (k3:Int)<0:=om;clear h1 h2 h3;go_enter Tryz.func13,Tryz.ntmps13;go_wp2_with (refine qG 43 (ku H0.o.1) Tryz.underlying43 (cy _ _) ?_);refine (HA.o _ H0.o.2).mono ?_;rintro o w1 ⟨rfl,hb1⟩;have H1:Hid (blk w1 W.heap.size (opL T S N cu q) 54/\Below W.heap.size W w1):=⟨H0.o.1.below hb1,H0.o.2.trans (hb1.mono H0.o.2.size)⟩
 clear hb1 H0;go_wp2_with (refine qG 49 (kt H1.o.1) Tryz.underlying49 (kJ _ _ _ _) ?_);refine (HB.o _ H1.o.2).mono ?_;rintro o w2 ⟨rfl,hb2⟩;have H2:Hid (blk w2 W.heap.size (opL T S N cu q) 54/\Below W.heap.size W w2):=⟨H1.o.1.below hb2,H1.o.2.trans (hb2.mono H1.o.2.size)⟩
 clear hb2 H1;go_wp2_with (refine qG 52 (od H2.o.1) Tryz.underlying52 (ur _ _ _ _) ?_);refine (HC.o _ H2.o.2).mono ?_;rintro o w3 ⟨rfl,hb3⟩;have H3:Hid (Below W.heap.size W w3):=H2.o.2.trans (hb3.mono H2.o.2.size);clear hb3 H2;go_wp2_with fail;go_ret;exact⟨rfl,H3.o⟩
end
section
variable {w:World} {B:Nat} {T:Co} {ws l:List Nat} {N cu:Int}
def vX {B':Nat} {v u:Value} {m:List Nat} (h:aa w B v l) (h':an w B' u m):∀ g,v.ownBlock=some g->∀ g',u.ownBlock=some g'->g≠g':=by
 intro g hg g' hg' e;obtain⟨c,fz,e1⟩:=h.kind g hg;obtain⟨c',fz',e2⟩:=h'.kind g' hg';rw[e,e2] at e1;injection e1 with e1
 injection e1 with _ e1 _
 exact Qz e1 (by decide)
def yz {a:Option Addr} {n k:Nat} (h:an w B (sL a n k) l):∀ x,a=some x->(Value.slice a n k).ownBlock=some x.block:=by
 intro x hx;obtain⟨_,h1|⟨g,cap,cur,e,_⟩⟩:=h
 .cases h1.1;cases hx
 .cases e;cases hx;rfl
def yS {B1:Nat} {S:Sc} {q:Os} (hd:aa w B (sL q.a q.n q.k) S.l) (hdn:q.n=S.l.length) (hw:an w B (sL q.aw q.nw q.kw) ws) (hwn:q.nw=ws.length) (hMK:MKC B1 T q.s w) (hb1:B<=B1) (hBw:B1<=w.heap.size) (d1:∀ g,(Value.slice q.a q.n q.k).ownBlock=some g->g<B1) (d2:∀ g,(Value.slice q.aw q.nw q.kw).ownBlock=some g->g<B1) (hS:S.l.length<=1048576) (hws:ws.length<=1048576):MKO B T S N cu q w:=by
 intro W hW hz;have hdB:∀ g,(Value.slice q.a q.n q.k).ownBlock=some g->B<=g/\g<B1:=fun g hg=>⟨(QC hd g hg).1,d1 g hg⟩
 have hwB:∀ g,(Value.slice q.aw q.nw q.kw).ownBlock=some g->B<=g/\g<B1:=fun g hg=>⟨(QC hw g hg).1,d2 g hg⟩
 have hap:=vX hd hw;have H0:Hid (blk (W.alloc (.cells (opL T S N cu q).toArray 54)) W.heap.size (opL T S N cu q) 54/\Below W.heap.size W (W.alloc (.cells (opL T S N cu q).toArray 54))):=⟨blk.new W _ 54,qw⟩
 obtain⟨v0,hv0⟩ : ∃ v0,v0=W.alloc (.cells (opL T S N cu q).toArray 54):=⟨_,rfl⟩
 rw[<- hv0] at H0;have hv:∀ x,B<=x->x<w.heap.size->v0.heap[x]?=w.heap[x]?:=fun x a b=>(H0.o.2.block x om).trans (hW x a b);have HM:Hid (Calls Tp 32 #[aG (coL T q.s).toArray,I J 1] v0 fun o w1=>∃ k1:Nat,o = rT (I J (k1:Int))/\k1<=100000000000000/\blk w1 W.heap.size (opL T S N cu q) 54/\Below B W w1/\w.heap.size<w1.heap.size/\(∀ x,w.heap.size<=x->x<W.heap.size->w1.heap[x]?=W.heap[x]?)/\aa w1 B (sL q.a q.n q.k) S.l/\an w1 B (sL q.aw q.nw q.kw) ws/\∀ W2,(∀ x,B1<=x->x<w.heap.size->W2.heap[x]?=w1.heap[x]?)->w.heap.size<=W2.heap.size->Calls Tp 35 #[aG (coL T q.s).toArray,I J 1] W2 fun o w2=>o = rT (I J (k1:Int))/\Below W2.heap.size W2 w2):=by
  refine (hMK v0 (fun x a b=>hv x om b) (by have:=H0.o.2.size;omega)).mono ?_;rintro o w1 ⟨k1,rfl,hk,h1,h2,h3⟩;have hlt:=H0.o.1.lt;have hsz:=h1.size;refine⟨k1,rfl,hk,H0.o.1.kept (h2 _ hz hlt),(H0.o.2.mono om).trans (h1.mono hb1),om,fun x a b=>(h2 x a om).trans (H0.o.2.block x b),?_,?_,h3⟩
  .exact hd.otherBlock fun g hg=>(h1.block g (hdB g hg).2).trans (hv g (hdB g hg).1 (by have:=hdB g hg;omega))
  .exact hw.otherBlock fun g hg=>(h1.block g (hwB g hg).2).trans (hv g (hwB g hg).1 (by have:=hwB g hg;omega))
 have HD:=ah (qH hdB (qH hwB hap));have HN:=ah (qH hdn (qH hwn (qH hS hws)));have HZ:=ah (qH hz (qH hBw hb1));clear hd hdn hw hwn hW hz hBw hMK hdB hwB hap hv hb1 d1 d2 hS hws;go_enter Tryz.func12,Tryz.ntmps12;go_upto_region 1 with fail
 change Code.wp _ _ _ _ (W.alloc (.cells (opL T S N cu q).toArray 54));rw[<- hv0];clear hv0;go_wp2_with (refine qG 43 (ku H0.o.1) Tryz.underlying43 (cy _ _) ?_);refine HM.o.mono ?_;rintro o w1 ⟨k1,rfl,hk1,b1,bl1,z1,o1,od1,ow1,c1⟩;have H1:Hid (blk w1 W.heap.size (opL T S N cu q) 54/\Below B W w1/\w.heap.size<w1.heap.size/\(∀ x,w.heap.size<=x->x<W.heap.size->w1.heap[x]?=W.heap[x]?)/\aa w1 B (sL q.a q.n q.k) S.l/\an w1 B (sL q.aw q.nw q.kw) ws):=⟨b1,bl1,z1,o1,od1,ow1⟩
 have HC1:=ah c1;have HK1:=ah hk1;clear b1 bl1 z1 o1 od1 ow1 c1 hk1 HM H0;go_wp2_with (refine qG 49 (kt H1.o.1) Tryz.underlying49 (kJ _ _ _ _) ?_);refine (Dp H1.o.2.2.2.2.1 (by have:=HZ.o;have:=H1.o.2.2.1;omega) HN.o.1 HN.o.2.2.1 k1 (by have:=HK1.o;omega)).mono ?_;rintro o w2 ⟨rfl,bl2,o2,c2⟩;have hap:=HD.o.2.2;have H2:Hid (blk w2 W.heap.size (opL T S N cu q) 54/\Below B W w2/\w1.heap.size<=w2.heap.size/\(∀ x,w.heap.size<=x->x<W.heap.size->w2.heap[x]?=W.heap[x]?)/\an w2 B (sL q.aw q.nw q.kw) ws/\∀ x,B1<=x->x<w.heap.size->w2.heap[x]?=w1.heap[x]?):=by
  have hz:=HZ.o;have hd:=HD.o.1;have l1:=H1.o.1.lt;have n1:∀ x,B1<=x->x<w1.heap.size->w2.heap[x]?=w1.heap[x]?:=fun x a b=>o2 x b (fun g hg e=>by have:=hd g hg;omega);refine⟨H1.o.1.kept (n1 _ om l1),H1.o.2.1.trans bl2,bl2.size,fun x a b=>(n1 x om om).trans (H1.o.2.2.2.1 x a b),H1.o.2.2.2.2.2.otherBlock fun g hg=>o2 g (QC H1.o.2.2.2.2.2 g hg).2 (fun g' hg'=>hap g' hg' g hg),fun x a b=>n1 x a (by have:=H1.o.2.2.1;omega)⟩
 have HC2:=ah c2;have HL1:=ah H1.o.2.2.1;have HDL:Hid (∀ g,(Value.slice q.a q.n q.k).ownBlock=some g->g<w1.heap.size):=fun g hg=>(QC H1.o.2.2.2.2.1 g hg).2;clear bl2 o2 c2 H1 hap;go_wp2_with (refine qG 52 (od H2.o.1) Tryz.underlying52 (ur _ _ _ _) ?_);refine (kV w2 B N q.aw q.nw q.kw (k1+q.n) ws H2.o.2.2.2.2.1 HN.o.2.1 (by have:=HK1.o;have:=HN.o;omega) (by have:=HZ.o;have:=HL1.o;have:=H2.o.2.2.1;omega)).mono ?_;rintro o w3 ⟨rfl,ow3,bl3,o3⟩;have H3:Hid (Below B W w3/\(∀ x,w.heap.size<=x->x<W.heap.size->w3.heap[x]?=W.heap[x]?)/\∀ W2,Below w3.heap.size w3 W2->Calls Tp 13 #[aG (opL T S N cu q).toArray,I J 1] W2 fun o w2=>o = rT (I J ((k1+q.n+q.nw:Nat):Int))/\Below W2.heap.size W2 w2):=by
  have hz:=HZ.o;have hw:=HD.o.2.1;have hap:=HD.o.2.2;have l1:=HL1.o;have l2:=H2.o.2.2.1;have l3:=bl3.size;have hh:=yz H2.o.2.2.2.2.1;have n2:∀ x,B1<=x->x<w2.heap.size->w3.heap[x]?=w2.heap[x]?:=fun x a b=>o3 x b (fun y hy e=>by have:=hw _ (hh y hy);omega);have lW:=H2.o.1.lt;refine⟨H2.o.2.1.trans bl3,fun x a b=>(n2 x om om).trans (H2.o.2.2.2.1 x a b),fun W2 hW2=>?_⟩;have l4:=hW2.size;refine DV W2 T S N cu q k1 (k1+q.n) (k1+q.n+q.nw) (fun X hX=>?_) (fun X hX=>?_) (fun X hX=>?_)
  .have hX':=hW2.trans (hX.mono hW2.size);have:=hX'.size;exact HC1.o X (fun x a b=>((hX'.block x om).trans (n2 x a om)).trans (H2.o.2.2.2.2.2 x a b)) om
  .have hX':=hW2.trans (hX.mono hW2.size);have:=hX'.size;exact HC2.o X (fun g hg=>(hX'.block g (by have:=HDL.o g hg;omega)).trans (o3 g (by have:=HDL.o g hg;omega) (fun y hy e=>hap g hg _ (hh y hy) e.symm))) om
  .have hX':=hW2.trans (hX.mono hW2.size);exact lz X B N q.aw q.nw q.kw (k1+q.n) ws (ow3.below hX') HN.o.2.1 (by have:=HK1.o;have:=HN.o;omega)
 clear ow3 bl3 o3 H2 HC1 HC2;go_wp2_with fail;go_ret;exact⟨_,rfl,H3.o⟩
def yA.mko {S:Sc} {q:Os} (h:yA B T S ws q w) (hS:S.l.length<=1048576) (hws:ws.length<=1048576):MKO B T S N cu q w:=by
 obtain⟨B1,E1,⟨s4,es,f,g1,g2⟩,hb1,he1,d1,d2⟩:=h.h;have hwh:whS B1 w.heap.size w s4:=(f w fun _ _ _=>rfl).2.mono (nR _) he1;have hBw:B1<=w.heap.size:=qB (Qj hwh.fb.1 hwh.fb.2);exact yS h.d h.dn h.w h.wn (by rw[es];exact MKQ.core (hwh.mkq g1 g2) hBw) hb1 hBw d1 d2 hS hws
def Ax (B:Nat) (w:World) (hB:B<=w.heap.size):MKO B zCo scZ 0 0 zOs w:=yS (ws:=[]) (gc _ _) rfl (gh _ _) rfl (MKQ.core (T:=zCo) (Ay B w hB) hB) (nR _) hB (fun g hg=>by cases hg) (fun g hg=>by cases hg) (by decide) (by decide)
def yA.st {S:Sc} {q:Os} (h:yA B T S ws q w) (hs:∀ x ∈ S.l,x<256) (hw:∀ x ∈ ws,x<18446744073709551616):St B w (fun W=>eN W T S ws q):=fun W hW=>by
 obtain⟨B1,E1,⟨s4,es,f,g1,g2⟩,hb1,he1,d1,d2⟩:=h.h;have h2:an W B (sL q.aw q.nw q.kw) ws:=h.w.keep hW;exact⟨by rw[es];exact (f W fun k a b=>hW k om om).1,(G.EV h.d hW).is hs,h2.words h.wn hw (h2.cap h.wn)⟩
end
set_option maxHeartbeats 8000000
structure opV (w:World) (C:Co) (S:Sc) (N cu:Int) (q:Os) (W:World):Prop where
 p:blk W w.heap.size (opL C S N cu q) 54
 b:Bl w W
def opV.below {w:World} {C:Co} {S:Sc} {N cu:Int} {q:Os} {W W':World} (h:opV w C S N cu q W) (hb:Bl W W'):opV w C S N cu q W':=⟨h.p.below hb,h.b.trans (hb.mono h.b.size)⟩
def opV.new (w:World) (C:Co) (S:Sc) (N cu:Int) (q:Os):opV w C S N cu q (w.alloc (.cells (opL C S N cu q).toArray 54)):=⟨blk.new w _ 54,qw⟩
def Kg (w:World) (C:Co) (S:Sc) (N cu:Int) (ws:List Nat) (q:Os) (h:eN w C S ws q) (hok:g9 C) (hn:C.ho.le 1048576) (hs:S.l.length<=1048576) (hw:ws.length<=1048576) (hp:C.p=1) (ht:C.tx=true) :
  Calls Tp 40 #[aG (opL C S N cu q).toArray] w fun o w'=>cK o (snP C S N cu ws)/\Bl w w':=by
 have HN:=ah (opV.new w C S N cu q);obtain⟨v0,hv0⟩ : ∃ v0,v0=w.alloc (.cells (opL C S N cu q).toArray 54):=⟨_,rfl⟩
 rw[<- hv0] at HN;have HV:=ah (FP v0 C q.s (h.h.below HN.o.b) hn hok);have hwr:=hok.s.1 ⟨hp,ht⟩;have hn2:q.s.n2<=8:=by have h1:=h.h.bx.len;have h2:=hok.h.n2;omega
 have HIM:Hid (∀ V,Bl w V->Calls Tp 54 #[aG (coL C q.s).toArray] V fun o w'=>∃ (e:Bool) (i:Nat) (r:Bool) (d:Int) (ao:Option Addr) (m c:Nat) (l:Unit),o = rT (frV e i r d ao m c)/\Bl V w'/\Calls Tp 44 #[frV e i r d ao m c] w' fun o w2=>o = rT (.string (dq C))/\Bl w' w2):=fun V hV=>IJ V C q.s (h.h.below hV) hn2 hwr;obtain⟨ko,kz⟩:=Bx hok hwr;have HGO:Hid (∀ k,k<(dq C).size->goL ((lt (dq C)).take k)):=fun k hk=>Jr h.h hok hwr hk
 have HPK:Hid (∀ V,Calls Tp 23 #[.string (dq C)] V fun o w'=>∃ ao n cap,o = rT (pkV ((dq C).size:Int) ao n cap)/\bP w' ao n cap (wl (lt (dq C)))/\Bl V w'):=fun V=>(py (dq C) V ko kz).mono (by
  rintro o w' ⟨ao,cap,rfl,q1,q2⟩;rw[EH] at q1
  exact⟨ao,_,cap,rfl,q1.words (by rw[dT,ba]) (kE _) (q1.cap (by rw[dT,ba])),q2⟩)
 have HWL:Hid ((wl (lt (dq C))).length<=1048576):=by show _<=_;rw[dT,ba];omega
 have HO:=ah h;have HS:=ah hs;have HW:=ah hw;have HP:=ah hp;have HT:=ah ht;have HKZ:Hid ((dq C).size<=4000):=kz;clear h hok hn hs hw hwr hn2 ko kz;go_enter Tryz.func40,Tryz.ntmps40;go_upto_region 1 with fail
 change Code.wp _ _ _ _ (w.alloc (.cells (opL C S N cu q).toArray 54));rw[<- hv0];clear hv0;go_wp2_with (refine qG 43 (ku HN.o.p) Tryz.underlying43 (cy C q.s) ?_);refine HV.o.mono ?_;rintro o w1 ⟨rfl,hb1⟩;have H1:=ah (HN.o.below hb1);have y0:=H1.o.p.cell 0 (I J C.p) rfl;have y6:=H1.o.p.cell 6 (bO C.tx) rfl;have y32:=H1.o.p.cell 32 (I J N) rfl;have y33:=H1.o.p.cell 33 (sL q.aw q.nw q.kw) rfl;have y34:=H1.o.p.cell 34 (I J cu) rfl;rw[HP.o] at y0;rw[HT.o] at y6;clear hb1 HV HN;go_upto_region 3 with fail
 go_cut [3] (fun x wx=>(∃ b,x = bO b)/\wx=w1);case first=>
  cases q1:(N == 0)
  .go_wp2_with fail;go_meet;case rel=>exact⟨⟨_,rfl⟩,rfl⟩
  cases q2:((q.nw:Int) == 0)
  .go_wp2_with fail;go_meet;case rel=>exact⟨⟨_,rfl⟩,rfl⟩
  cases q3:(cu == 0);all_goals
   go_wp2_with fail;go_meet;case rel=>exact⟨⟨_,rfl⟩,rfl⟩
 case rest=>
  obtain⟨⟨b3,rfl⟩,rfl⟩:=hcut;go_wp2_with (refine qG 43 (ku H1.o.p) Tryz.underlying43 (cy C q.s) ?_);refine (HIM.o _ H1.o.b).mono ?_;rintro o w2 ⟨e,i,r,d,ao,m,c,l,rfl,hb2,hE⟩;have H2:=ah (H1.o.below hb2);have HE:=ah hE;clear hb2 hE HIM H1 y0 y6 y32 y33 y34;go_wp2_with fail;refine HE.o.mono ?_;rintro o w3 ⟨rfl,hb3⟩;have H3:=ah (H2.o.below hb3);clear hb3 HE H2;go_upto_region 9 with fail
  refine QK (S:=fun X=>opV w C S N cu q X) kr ?_;have hS:opV w C S N cu q w3.drew:=H3.o.below (bW _ _).drew;clear H3;refine tk 0 ?_;refine tk 2 ?_;refine wU 1 (pkV N q.aw q.nw q.kw) rfl (QM (by rfl) 52 (.tmp 57) rfl w.heap.size 32 rfl [I J N,sL q.aw q.nw q.kw] _ (fun X h=>od h.p) Tryz.underlying52 rfl (ur _ _ _ _)) hS ?_;simp only[aZ];refine al 3 fun K hK=>?_;go_simp;refine (HPK.o _).mono ?_;rintro o w4 ⟨ao',n4,cap4,rfl,hw4,hb4⟩;go_wp2_with fail;refine hK.out _ _ (hS.below hb4) (fun hS2=>?_);have HW4:=ah hw4;clear hS hK K hb4 hw4 HPK;have hS:=hS2;clear hS2;refine al 4 fun K hK=>?_;go_simp;refine (Jn w4 N _ q.aw ao' q.nw q.kw n4 cap4 ws _ (HO.o.w.below hS.b) HW4.o (by have:=HO.o.w.len;have:=HW.o;omega) (by have:=HW4.o.len;have:=HWL.o;omega)).mono ?_;rintro o w5 ⟨⟨b5,rfl,h5⟩,hb5⟩;go_wp2_with fail;refine hK.out _ _ (hS.below hb5) (fun hS2=>?_);have H5:=ah h5;clear hS hK K hb5 h5 HW4;have hS:=hS2;clear hS2;refine tk 5 ?_;refine tk 6 ?_;cases b5
  .have HX:Hid (¬ snP C S N cu ws):=fun e=>by have:=H5.o.2 ⟨e.n,e.w⟩;cases this
   refine tn 7 ?_;refine tn 8 ?_;refine tn 9 ?_;refine tk 10 ?_;refine tk 11 ?_;refine tn 12 ?_;refine tn 13 ?_;refine tn 14 ?_;refine tn 15 ?_;refine tn 16 ?_;refine tk 17 ?_;have hbl:=hS.b;refine QI kr ?_ _;clear hS;go_wp2;go_ret;exact⟨⟨false,rfl,fun e=>(by cases e),fun e=>Qz e HX.o⟩,hbl⟩
  refine tk 7 ?_;refine tk 8 ?_ (hy:=fun W hW=>by (have y:=hW.p.cell 34 (I J cu) rfl;go_simp;try rfl));cases g0:decide (cu<0);case true=>
   have HX:Hid (¬ snP C S N cu ws):=fun e=>by have:=e.c0;have:=qP g0;omega
   refine tk 9 ?_;refine tk 10 ?_;refine tk 11 ?_;refine tn 12 ?_;refine tn 13 ?_;refine tn 14 ?_;refine tn 15 ?_;refine tn 16 ?_;refine tk 17 ?_;have hbl:=hS.b;refine QI kr ?_ _;clear hS;go_wp2;go_ret;exact⟨⟨false,rfl,fun e=>(by cases e),fun e=>Qz e HX.o⟩,hbl⟩
  have h0:0<=cu:=by have:=of_decide_eq_false g0;omega
  refine tk 9 ?_;refine tk 10 ?_;refine tk 11 ?_;refine tk 12 ?_;refine tk 13 ?_ (hy:=fun W hW=>by (have y:=hW.p.cell 34 (I J cu) rfl;go_simp;try rfl));refine tk 14 ?_;refine tk 15 ?_;cases g1:decide (((dq C).size:Int)<=cu);case true=>
   have HX:Hid (¬ snP C S N cu ws):=fun e=>by have:=e.c1;have:=qP g1;omega
   refine tk 16 ?_;refine tk 17 ?_;have hbl:=hS.b;refine QI kr ?_ _;clear hS;go_wp2;go_ret;exact⟨⟨false,rfl,fun e=>(by cases e),fun e=>Qz e HX.o⟩,hbl⟩
  have h1:cu<((dq C).size:Int):=by have:=of_decide_eq_false g1;omega
  refine tk 16 ?_;refine tk 17 ?_;have H6:=ah hS;refine QI kr ?_ _;clear hS;have HNW:=ah (H5.o.1 rfl);clear H5;obtain⟨k,rfl⟩:=Int.eq_ofNat_of_zero_le h0;have hk:k<(dq C).size:=om;have hk':k<=(dq C).size:=qB hk;have y34:=H6.o.p.cell 34 (I J (k:Int)) rfl
  have HSC:Hid (∀ V,Calls Tp 21 #[.string ((dq C).extract 0 k)] V fun o w'=>∃ a n kk c,o = rT (.tuple #[aG (scL (scO ((lt (dq C)).take k)) a n kk).toArray,I J c])/\iB w' a n kk (scO ((lt (dq C)).take k)).l/\Bl V w'):=fun V=>by
   rw[<- Gt];exact tu V ((dq C).extract 0 k) (by rw[show (((dq C).extract 0 k).data.toList.map (·.toNat))=lt ((dq C).extract 0 k) from rfl,Gt];exact HGO.o k hk)
  have HL8:Hid ((scO ((lt (dq C)).take k)).l.length<=8):=by
   have:=(At.of (HGO.o k hk) _ (nR _)).sim;rw[List.take_length] at this;show _<=_;rw[this.l];exact this.inv.dal
  have HR:Hid (snP C S N (k:Int) ws↔scO ((lt (dq C)).take k)=S):=⟨fun e=>by have:=e.s;rw[Int.toNat_natCast] at this;exact this.symm,fun e=>⟨HNW.o.1,HNW.o.2,Int.natCast_nonneg _,om,by rw[Int.toNat_natCast];exact e.symm⟩⟩
  generalize scO ((lt (dq C)).take k)=U at *;clear g0 g1 h0 h1;go_wp2_with fail;refine (HSC.o _).mono ?_;rintro o w7 ⟨a7,n7,k7,c7,rfl,hi7,hb7⟩;have H7:Hid (opV w C S N (k:Int) q w7/\iB w7 a7 n7 k7 U.l):=⟨H6.o.below hb7,hi7⟩
  have HN7:Hid (blk (w7.alloc (.cells z11.toArray 49)) w7.heap.size z11 49):=blk.new w7 _ 49;clear hi7 hb7 H6 y34;go_upto_region 12 with (refine QE (P:=Tp) rfl 49 _ _ rfl w7.heap.size 0 (scL U a7 n7 k7).toArray rfl rfl (HN7.o.there 0 11 (nR _)) dV (iO _ _ _ _) ?_;generalize hW8:World.setCells (w7.alloc _) w7.heap.size 0 _=w8;have HW8:Hid (_=w8):=hW8;clear hW8)
  have e8:=HW8.o;have hb8:Bl w7 w8:=by rw[<- e8];exact sW (nR _) _ _ qw
  have H8:Hid (opV w C S N (k:Int) q w8/\blk w8 w7.heap.size (scL U a7 n7 k7) 49/\iB w8 a7 n7 k7 U.l):=⟨H7.o.1.below hb8,by rw[<- e8];exact HN7.o.put [] z11 [] (scL U a7 n7 k7) rfl,H7.o.2.below hb8⟩
  clear e8 hb8 HW8 H7 HN7;generalize w7.heap.size=Q at *;go_wp2_with (first
   | (refine qG 49 H8.o.2.1.load Tryz.underlying49 (kJ _ _ _ _) ?_)
   | (refine qG 49 (kt H8.o.1.p) Tryz.underlying49 (kJ _ _ _ _) ?_))
  refine (Jm w8 U S a7 n7 k7 q.a q.n q.k H8.o.2.2 (HO.o.d.below H8.o.1.b) (by have:=H8.o.2.2.len;have:=HL8.o;omega) (by have:=HO.o.d.len;have:=HS.o;omega)).mono ?_;rintro o w9 ⟨⟨b9,rfl,h9⟩,hb9⟩;have H9:Hid (Bl w w9/\(b9=true↔snP C S N (k:Int) ws)):=⟨H8.o.1.b.trans (hb9.mono H8.o.1.b.size),h9.trans HR.o.symm⟩
  clear h9 hb9 H8;go_wp2;go_ret;exact⟨⟨b9,rfl,H9.o.2⟩,H9.o.1⟩
def JH (w:World) (C:Co) (S:Sc) (N cu:Int) (ws:List Nat) (q:Os) (h:eN w C S ws q) (hok:¬ g9 C) (hn:C.ho.le 1048576) :
  Calls Tp 40 #[aG (opL C S N cu q).toArray] w fun o w'=>o = rT (bO false)/\Bl w w':=by
 have HN:=ah (opV.new w C S N cu q);obtain⟨v0,hv0⟩ : ∃ v0,v0=w.alloc (.cells (opL C S N cu q).toArray 54):=⟨_,rfl⟩
 rw[<- hv0] at HN;have HV:=ah (Fv v0 C q.s (h.h.below HN.o.b) hn hok);clear h hok hn;go_enter Tryz.func40,Tryz.ntmps40;go_upto_region 1 with fail
 change Code.wp _ _ _ _ (w.alloc (.cells (opL C S N cu q).toArray 54));rw[<- hv0];clear hv0;go_wp2_with (refine qG 43 (ku HN.o.p) Tryz.underlying43 (cy C q.s) ?_);refine HV.o.mono ?_;rintro o w1 ⟨rfl,hb1⟩;have H1:=ah (HN.o.below hb1);clear hb1 HV HN;go_wp2;go_ret;exact⟨rfl,H1.o.b⟩
def Kh (w:World) (C:Co) (S:Sc) (N cu:Int) (ws:List Nat) (q:Os) (h:eN w C S ws q) (hok:g9 C) (hn:C.ho.le 1048576) (hp:C.p≠1) :
  Calls Tp 40 #[aG (opL C S N cu q).toArray] w fun o w'=>cK o (hJ N cu ws/\S=scZ)/\Bl w w':=by
 have HN:=ah (opV.new w C S N cu q);obtain⟨v0,hv0⟩ : ∃ v0,v0=w.alloc (.cells (opL C S N cu q).toArray 54):=⟨_,rfl⟩
 rw[<- hv0] at HN;have HV:=ah (FP v0 C q.s (h.h.below HN.o.b) hn hok);have HO:=ah h;have np:(C.p != 1)=true:=by simpa using hp
 clear h hok hn hp;go_enter Tryz.func40,Tryz.ntmps40;go_upto_region 1 with fail
 change Code.wp _ _ _ _ (w.alloc (.cells (opL C S N cu q).toArray 54));rw[<- hv0];clear hv0;go_wp2_with (refine qG 43 (ku HN.o.p) Tryz.underlying43 (cy C q.s) ?_);refine HV.o.mono ?_;rintro o w1 ⟨rfl,hb1⟩;have H1:=ah (HN.o.below hb1);have y0:=H1.o.p.cell 0 (I J C.p) rfl;have y6:=H1.o.p.cell 6 (bO C.tx) rfl;have y21:=H1.o.p.cell 21 (I J S.f) rfl;have y32:=H1.o.p.cell 32 (I J N) rfl;have y33:=H1.o.p.cell 33 (sL q.aw q.nw q.kw) rfl;have y34:=H1.o.p.cell 34 (I J cu) rfl;have HWL:=ah HO.o.w.len
 have HBR:Hid (∀ b:Bool,b=((N == 0) && (((q.nw:Int) == 0) && (cu == 0)))->(b=true↔hJ N cu ws)):=fun b e=>by
  rw[e];simp only[qx,beq_iff_eq];constructor
  .rintro⟨h1,h2,h3⟩;exact⟨h1,List.length_eq_zero_iff.1 (by have:=HWL.o;omega),h3⟩
  .rintro⟨h1,h2,h3⟩;exact⟨h1,by have:=HWL.o;rw[h2] at this;simp at this;omega,h3⟩
 clear hb1 HV HN;go_upto_region 3 with fail
 go_cut [3] (fun x wx=>(∃ b:Bool,x = bO b/\Hid (b=true↔hJ N cu ws))/\wx=w1);case first=>
  cases q1:(N == 0)
  .have HF:Hid (false=true↔hJ N cu ws):=HBR.o _ (by rw[q1];rfl);go_wp2_with fail;go_meet;case rel=>exact⟨⟨_,rfl,HF⟩,rfl⟩
  cases q2:((q.nw:Int) == 0)
  .have HF:Hid (false=true↔hJ N cu ws):=HBR.o _ (by rw[q1,q2];rfl);go_wp2_with fail;go_meet;case rel=>exact⟨⟨_,rfl,HF⟩,rfl⟩
  cases q3:(cu == 0)
  .have HF:Hid (false=true↔hJ N cu ws):=HBR.o _ (by rw[q1,q2,q3];rfl);go_wp2_with fail;go_meet;case rel=>exact⟨⟨_,rfl,HF⟩,rfl⟩
  .have HF:Hid (true=true↔hJ N cu ws):=HBR.o _ (by rw[q1,q2,q3];rfl);go_wp2_with fail;go_meet;case rel=>exact⟨⟨_,rfl,⟨fun _=>HF.o.1 (by trivial),fun _=>rfl⟩⟩,rfl⟩
 case rest=>
  obtain⟨⟨b3,rfl,H3⟩,rfl⟩:=hcut;obtain⟨X,HX⟩ : ∃ X:Prop,Hid (X↔hJ N cu ws/\S=scZ):=⟨_,Iff.rfl⟩
  have FIN:Hid (∀ (b:Bool) (w':World),(b=true↔hJ N cu ws/\S=scZ)->Bl w w'->(∃ x:Bool,Ending.returned (bO b) = rT (bO x)/\(x=true↔hJ N cu ws/\S=scZ))/\Bl w w'):=fun b w' e hb=>⟨⟨b,rfl,e⟩,hb⟩
  cases b3
  .go_wp2_with fail;go_ret;exact FIN.o false _ ⟨fun e=>(by cases e),fun e=>H3.o.2 e.1⟩ H1.o.b
  .go_wp2_with (refine di (by first | rfl | (simp[Region.wanted,yielded];done)) 49 _ rfl w.heap.size 21 rfl _ _ (kt H1.o.p) Tryz.underlying49 rfl (kJ _ _ _ _) ?_);refine (Jl _ S q.a q.n q.k HO.o.d.len).mono ?_;rintro o w2 ⟨⟨b,rfl,hb⟩,hb2⟩;have H2:Hid (Bl w w2/\(b=true↔hJ N cu ws/\S=scZ)):=⟨H1.o.b.trans (hb2.mono H1.o.b.size),⟨fun e=>⟨H3.o.1 (by trivial),hb.1 e⟩,fun e=>hb.2 e.2⟩⟩
   clear hb hb2;go_wp2_with fail;go_ret;exact FIN.o b _ H2.o.2 H2.o.1
def Ki (w:World) (C:Co) (S:Sc) (N cu:Int) (ws:List Nat) (q:Os) (h:eN w C S ws q) (hok:g9 C) (hn:C.ho.le 1048576) (hs:S.l.length<=1048576) (hp:C.p=1) (ht:C.tx=false) :
  Calls Tp 40 #[aG (opL C S N cu q).toArray] w fun o w'=>cK o (hJ N cu ws/\okS S/\S.f≠1)/\Bl w w':=by
 have HN:=ah (opV.new w C S N cu q);obtain⟨v0,hv0⟩ : ∃ v0,v0=w.alloc (.cells (opL C S N cu q).toArray 54):=⟨_,rfl⟩
 rw[<- hv0] at HN;have HV:=ah (FP v0 C q.s (h.h.below HN.o.b) hn hok);have HO:=ah h;have HS:=ah hs;have HP:=ah hp;have HT:=ah ht;clear h hok hn hp ht hs;go_enter Tryz.func40,Tryz.ntmps40;go_upto_region 1 with fail
 change Code.wp _ _ _ _ (w.alloc (.cells (opL C S N cu q).toArray 54));rw[<- hv0];clear hv0;go_wp2_with (refine qG 43 (ku HN.o.p) Tryz.underlying43 (cy C q.s) ?_);refine HV.o.mono ?_;rintro o w1 ⟨rfl,hb1⟩;have H1:=ah (HN.o.below hb1);have y0:=H1.o.p.cell 0 (I J C.p) rfl;have y6:=H1.o.p.cell 6 (bO C.tx) rfl;have y21:=H1.o.p.cell 21 (I J S.f) rfl;have y32:=H1.o.p.cell 32 (I J N) rfl;have y33:=H1.o.p.cell 33 (sL q.aw q.nw q.kw) rfl;have y34:=H1.o.p.cell 34 (I J cu) rfl;have HWL:=ah HO.o.w.len
 have HBR:Hid (∀ b:Bool,b=((N == 0) && (((q.nw:Int) == 0) && (cu == 0)))->(b=true↔hJ N cu ws)):=fun b e=>by
  rw[e];simp only[qx,beq_iff_eq];constructor
  .rintro⟨h1,h2,h3⟩;exact⟨h1,List.length_eq_zero_iff.1 (by have:=HWL.o;omega),h3⟩
  .rintro⟨h1,h2,h3⟩;exact⟨h1,by have:=HWL.o;rw[h2] at this;simp at this;omega,h3⟩
 clear hb1 HV HN;go_upto_region 3 with fail
 go_cut [3] (fun x wx=>(∃ b:Bool,x = bO b/\Hid (b=true↔hJ N cu ws))/\wx=w1);case first=>
  cases q1:(N == 0)
  .have HF:Hid (false=true↔hJ N cu ws):=HBR.o _ (by rw[q1];rfl);go_wp2_with fail;go_meet;case rel=>exact⟨⟨_,rfl,HF⟩,rfl⟩
  cases q2:((q.nw:Int) == 0)
  .have HF:Hid (false=true↔hJ N cu ws):=HBR.o _ (by rw[q1,q2];rfl);go_wp2_with fail;go_meet;case rel=>exact⟨⟨_,rfl,HF⟩,rfl⟩
  cases q3:(cu == 0)
  .have HF:Hid (false=true↔hJ N cu ws):=HBR.o _ (by rw[q1,q2,q3];rfl);go_wp2_with fail;go_meet;case rel=>exact⟨⟨_,rfl,HF⟩,rfl⟩
  .have HF:Hid (true=true↔hJ N cu ws):=HBR.o _ (by rw[q1,q2,q3];rfl);go_wp2_with fail;go_meet;case rel=>exact⟨⟨_,rfl,⟨fun _=>HF.o.1 (by trivial),fun _=>rfl⟩⟩,rfl⟩
 case rest=>
  obtain⟨⟨b3,rfl,H3⟩,rfl⟩:=hcut;rw[HP.o] at y0;rw[HT.o] at y6;have FIN:Hid (∀ (b:Bool) (w':World),(b=true↔hJ N cu ws/\okS S/\S.f≠1)->Bl w w'->(∃ x:Bool,Ending.returned (bO b) = rT (bO x)/\(x=true↔hJ N cu ws/\okS S/\S.f≠1))/\Bl w w'):=fun b w' e hb=>⟨⟨b,rfl,e⟩,hb⟩
  cases b3
  .go_wp2_with fail;go_ret;exact FIN.o false _ ⟨fun e=>(by cases e),fun e=>H3.o.2 e.1⟩ H1.o.b
  .go_wp2_with (refine di (by first | rfl | (simp[Region.wanted,yielded];done)) 49 _ rfl w.heap.size 21 rfl _ _ (kt H1.o.p) Tryz.underlying49 rfl (kJ _ _ _ _) ?_);refine (j3 _ S q.a q.n q.k HO.o.d.len (by have:=HO.o.d.len;have:=HS.o;omega)).mono ?_;rintro o w2 ⟨⟨b,rfl,hb⟩,hb2⟩;have H2:Hid (opV w C S N cu q w2/\(b=true↔okS S)):=⟨H1.o.below hb2,hb⟩
   clear hb hb2 H1 y0 y6 y21 y32 y33 y34;have y21:=H2.o.1.p.cell 21 (I J S.f) rfl;cases b
   .go_wp2_with fail;go_ret;exact FIN.o false _ ⟨fun e=>(by cases e),fun e=>H2.o.2.2 e.2.1⟩ H2.o.1.b
   .cases qf:(S.f != 1)
    .have HF:Hid (S.f=1):=by show _=_;simpa using qf
     go_wp2_with fail;go_ret;exact FIN.o false _ ⟨fun e=>(by cases e),fun e=>Qz HF.o e.2.2⟩ H2.o.1.b
    .have HF:Hid (S.f≠1):=by show _≠_;simpa using qf
     go_wp2_with fail;go_ret;exact FIN.o true _ ⟨fun _=>⟨H3.o.1 (by trivial),H2.o.2.1 (by trivial),HF.o⟩,fun _=>rfl⟩ H2.o.1.b
def JX (w:World) (C:Co) (S:Sc) (N cu:Int) (ws:List Nat) (q:Os) (h:eN w C S ws q) (hn:C.ho.le 1048576) (hs:S.l.length<=1048576) (hw:ws.length<=1048576) :
  Calls Tp 40 #[aG (opL C S N cu q).toArray] w fun o w'=>cK o (vf C S N cu ws)/\Bl w w':=by
 by_cases hok:g9 C
 .by_cases hp:C.p=1
  .cases ht:C.tx
   .refine (Ki w C S N cu ws q h hok hn hs hp ht).mono ?_;rintro o w' ⟨⟨b,rfl,hb⟩,h2⟩;exact⟨⟨b,rfl,hb.trans (Jg hok hp ht).symm⟩,h2⟩
   .refine (Kg w C S N cu ws q h hok hn hs hw hp ht).mono ?_;rintro o w' ⟨⟨b,rfl,hb⟩,h2⟩;exact⟨⟨b,rfl,hb.trans (Je hok hp ht).symm⟩,h2⟩
  .refine (Kh w C S N cu ws q h hok hn hp).mono ?_;rintro o w' ⟨⟨b,rfl,hb⟩,h2⟩;exact⟨⟨b,rfl,hb.trans (Jf hok hp).symm⟩,h2⟩
 .refine (JH w C S N cu ws q h hok hn).mono ?_;rintro o w' ⟨rfl,h2⟩;exact⟨⟨false,rfl,fun e=>(by cases e),fun e=>Qz e.c hok⟩,h2⟩
def olZ (C:Co) (S:Sc) (cu:Int) (ws:List Nat):Int:=if C.p=2/\C.wk=false then 0 else if C.p=1 then (if C.tx=true then (lev ws cu.toNat:Int) else if S.f=12/\S.ac=S.cr then 0 else 1) else 1
def JG (w:World) (C:Co) (S:Sc) (N cu:Int) (ws:List Nat) (q:Os) (h:eN w C S ws q) (hw:ws.length<=1048576) (hc:C.p=1->C.tx=true->0<=cu/\cu<64*(ws.length:Int)) :
  Calls Tp 46 #[aG (opL C S N cu q).toArray] w fun o w'=>o = rT (I J (olZ C S cu ws))/\Bl w w':=by
 have HN:=ah (opV.new w C S N cu q);obtain⟨v0,hv0⟩ : ∃ v0,v0=w.alloc (.cells (opL C S N cu q).toArray 54):=⟨_,rfl⟩
 rw[<- hv0] at HN;have HO:=ah h;have HW:=ah hw;have HC:=ah hc;obtain⟨Z,HZ⟩ : ∃ Z:Int,Hid (olZ C S cu ws=Z):=⟨_,rfl⟩
 rw[show olZ C S cu ws=Z from HZ.o];clear h hw hc;have y0:=HN.o.p.cell 0 (I J C.p) rfl;have y3:=HN.o.p.cell 3 (bO C.wk) rfl;have y6:=HN.o.p.cell 6 (bO C.tx) rfl;have y21:=HN.o.p.cell 21 (I J S.f) rfl;have y25:=HN.o.p.cell 25 (I J S.cr) rfl;have y26:=HN.o.p.cell 26 (I J S.ac) rfl;have y34:=HN.o.p.cell 34 (I J cu) rfl;go_enter Tryz.func46,Tryz.ntmps46;go_upto_region 1 with fail
 change Code.wp _ _ _ _ (w.alloc (.cells (opL C S N cu q).toArray 54));rw[<- hv0];clear hv0;by_cases hp2:C.p=2
 .rw[hp2] at y0;have hp1:¬ C.p=1:=om;cases hk:C.wk
  .have hz:Z=0:=by rw[<- HZ.o];unfold olZ;rw[zc ⟨hp2,hk⟩]
   rw[hk] at y3;clear hp2 hp1 hk;go_wp2;go_ret;exact⟨au hz.symm,HN.o.b⟩
  .have hz:Z=1:=by rw[<- HZ.o];unfold olZ;rw[zb (by rw[hk];simp),zb hp1]
   rw[hk] at y3;clear hp2 hp1 hk;go_wp2;go_ret;exact⟨au hz.symm,HN.o.b⟩
 have h2:(C.p == 2)=false:=by simpa using hp2
 by_cases hp:C.p=1
 .rw[hp] at y0;cases ht:C.tx
  .rw[ht] at y6;have hz:Z=if S.f=12/\S.ac=S.cr then 0 else 1:=by rw[<- HZ.o];unfold olZ;rw[zb (fun e=>hp2 e.1),zc hp,zb (by rw[ht];simp)]
   have HZZ:=ah hz;clear hp2 hp ht h2 hz;cases q1:(S.f == 12)
   .have hz:Z=1:=by rw[HZZ.o,zb];rintro⟨e,_⟩;rw[e] at q1;simp at q1
    have HZ1:=ah hz;clear hz;go_wp2;go_ret;exact⟨au HZ1.o.symm,HN.o.b⟩
   cases q2:(S.ac == S.cr)
   .have hz:Z=1:=by rw[HZZ.o,zb];rintro⟨_,e⟩;rw[e] at q2;simp at q2
    have HZ1:=ah hz;clear hz;go_wp2;go_ret;exact⟨au HZ1.o.symm,HN.o.b⟩
   .have hz:Z=0:=by rw[HZZ.o,zc ⟨by simpa using q1,by simpa using q2⟩]
    have HZ1:=ah hz;clear hz;go_wp2;go_ret;exact⟨au HZ1.o.symm,HN.o.b⟩
  .rw[ht] at y6;have hz:Z=(lev ws cu.toNat:Int):=by rw[<- HZ.o];unfold olZ;rw[zb (fun e=>hp2 e.1),zc hp,zc ht]
   obtain⟨c0,c1⟩:=HC.o hp ht;have HZ1:=ah hz;clear hp2 hp ht h2 hz;obtain⟨k,rfl⟩:=Int.eq_ofNat_of_zero_le c0;have HL:=ah HO.o.w.len;go_wp2_with (refine qG 52 (od HN.o.p) Tryz.underlying52 (ur _ _ _ _) ?_);refine (Gh _ N q.aw q.nw q.kw ws (HO.o.w.below HN.o.b) k (by have:=HL.o;omega) (by have:=HL.o;have:=HW.o;omega)).mono ?_;rintro o w2 ⟨rfl,rfl⟩;have HB:Hid (Bl w (v0.alloc (pkC N q.aw q.nw q.kw 52))):=HN.o.b.alloc HN.o.b.size _;go_wp2;go_ret;refine⟨au ?_,HB.o⟩;rw[HZ1.o];simp
 .have hz:Z=1:=by rw[<- HZ.o];unfold olZ;rw[zb (fun e=>hp2 e.1),zb hp]
  have h1:(C.p == 1)=false:=by simpa using hp
  have HZ1:=ah hz;clear hp2 hp hz;go_wp2;go_ret;exact⟨au HZ1.o.symm,HN.o.b⟩
def IX (o:List Nat) (ho:∀ x ∈ o,M.isL x):unL (wl o) o.length=o:=by
 refine List.ext_getElem (Gs _ _) fun j h1 h2=>?_;have hj:j<o.length:=h2;have e:(unL (wl o) o.length)[j]=48+lev (wl o) j:=by simp[unL]
 rw[e,yZ o ho j (by rw[dT];omega),dif_pos hj];rcases ho o[j] (zh hj) with e | e <;> omega
def Ka {C:Co} {S:Sc} {N cu:Int} {ws:List Nat} (h:vf C S N cu ws):∃ E:ByteArray,unZ N ws=E/\okT E 4000=true/\E.size<=4000/\N=(E.size:Int)/\ws=wl (lt E):=by
 have nil:hJ N cu ws->∃ E:ByteArray,unZ N ws=E/\okT E 4000=true/\E.size<=4000/\N=(E.size:Int)/\ws=wl (lt E):=by
  rintro⟨rfl,rfl,-⟩;exact⟨⟨#[]⟩,by kernel_rfl,by kernel_rfl,by decide,rfl,by kernel_rfl⟩
 by_cases hp:C.p=1
 .cases ht:C.tx
  .exact nil (h.h hp ht).1
  .have hs:=h.s hp ht;obtain⟨ko,kz⟩:=Bx h.c (h.c.s.1 ⟨hp,ht⟩);refine⟨dq C,?_,ko,kz,hs.n,hs.w⟩;have hL:=gC ko;rw[hs.n,hs.w];unfold unZ;rw[zc (by rw[<- ba];exact DB _ hL (by rw[ba];exact kz)),Int.toNat_natCast,<- ba (dq C),IX _ hL,ya]
 .exact nil (h.i hp).1
def GR (T:Co) (S:Sc) (N cu:Int) (o:Os) (j:Int):Value.int .u8 j ∉ opL T S N cu o:=by simp[opL,coL,scL,pk3]
def GS (T:Co) (S:Sc) (N cu:Int) (o:Os) (j:Int):Value.int .u64 j ∉ opL T S N cu o:=by simp[opL,coL,scL,pk3]
def bP.farL {W V:Wd} {a:Option Addr} {n cap:Nat} {l:List Nat} (h:bP W a n cap l) {x:Nat} {L:List Value} {ty:TypeId} (hx:blk W x L ty) (hL:∀ j,Value.int .u64 j ∉ L) (hV:∀ q,q≠x->V.heap[q]?=W.heap[q]?):bP V a n cap l:=by
 refine⟨h.len,h.cap,h.small,fun hne=>?_⟩;obtain⟨g,off,e,hc⟩:=h.cells hne;refine⟨g,off,e,fun j hj=>?_⟩;have hcj:=hc j hj;have hg:g≠x:=by
  rintro rfl;refine hL (l[j]:Int) ?_;unfold blk at hx;simp only[World.cell?,hx] at hcj;simp at hcj;exact List.mem_of_getElem? hcj
 exact (dt (hV g hg) _).trans hcj
def cR.far54 {B T g n k:Nat} {bs:List R8} {W V:Wd} (h:cR B T 240 g n k bs W) {x:Nat} {L:List Value} (hx:blk W x L 54) (hL:∀ j,Value.int .u8 j ∉ L) (hV:∀ q,q≠x->V.heap[q]?=W.heap[q]?) (hz:V.heap.size=W.heap.size):cR B T 240 g n k bs V:=by
 obtain⟨rs,ho,hm,hn,hgT,hall⟩:=h;have hg:g≠x:=by
  rcases ho.own.2 with⟨e,_⟩|⟨g1,cap,cur,hv',hb,hgg,_⟩
  .cases e
  cases hv';rintro rfl;unfold blk at hx;rw[hgg] at hx;injection hx with hx
  injection hx with _ hx _
  exact Qz hx (by decide)
 refine⟨rs,⟨oK ho.own (hV g hg),fun p hp=>?_⟩,hm,hn,hgT,hall⟩;obtain⟨d1,d2,d3,d4⟩:=ho.dat p hp;exact⟨d1.farL hx hL hV,d2,d3,om⟩
def spS.far54 {B T0 T1 T2:Nat} {H:Ho} {s:Sl} {W V:Wd} (h:spS B T0 T1 T2 H s W) {x:Nat} {L:List Value} (hx:blk W x L 54) (hT:T2<=x\/x<B) (hL:∀ j,Value.int .u8 j ∉ L) (hV:∀ q,q≠x->V.heap[q]?=W.heap[q]?) (hz:V.heap.size=W.heap.size):spS B T0 T1 T2 H s V:=by
 obtain⟨o1,o2,o3,o4⟩:=h.o;obtain⟨gf,e1,h1a,h1b,h1⟩:=h.f;obtain⟨gb,hs,e2,h2⟩:=h.x;obtain⟨gq,e3,h3⟩:=h.r;obtain⟨g4,e4,h4⟩:=h.q;refine⟨⟨gf,e1,h1a,h1b,h1.same (hV gf om)⟩,⟨gb,hs,e2,h2.st fun q h1 h2=>hV q om⟩,⟨gq,e3,h3.keep fun q h1 h2=>hV q om⟩,⟨g4,e4,?_⟩,⟨o1,o2,o3,om⟩⟩;rw[hz];exact h4.far54 hx hL hV hz
structure gO (w:Wd) (B T0 T1 T2 P:Nat) (T:Co) (S:Sc) (N cu:Int) (ws:List Nat) (o:Os) (W:Wd):Prop where
 y:blk W (w.heap.size+1) Z35 54
 p:blk W P (opL T S N cu o) 54
 h:spS B T0 T1 T2 T.ho o.s W
 d:iB W o.a o.n o.k S.l
 x:bP W o.aw o.nw o.kw ws
 b:Bl w W
 n:w.heap.size+2<=P/\w.heap.size+2<=B/\(T2<=P\/P<B)
section
variable {w : Wd} {B T0 T1 T2 P : Nat} {T : Co} {S : Sc} {N cu : Int} {ws : List Nat} {o : Os} {W : Wd}
def gO.below (h:gO w B T0 T1 T2 P T S N cu ws o W) {W':Wd} (hb:Bl W W'):gO w B T0 T1 T2 P T S N cu ws o W':=⟨h.y.below hb,h.p.below hb,h.h.below hb,h.d.below hb,h.x.below hb,h.b.trans (hb.mono h.b.size),h.n⟩
def gO.put (h:gO w B T0 T1 T2 P T S N cu ws o W) {T':Co} {S':Sc} {N' cu':Int} {ws':List Nat} {o':Os} {V:Wd} (hp:blk V P (opL T' S' N' cu' o') 54) (hV:∀ q,q≠P->V.heap[q]?=W.heap[q]?) (hz:V.heap.size=W.heap.size) (hb:Bl w V) (hh:spS B T0 T1 T2 T'.ho o'.s W) (hd:iB W o'.a o'.n o'.k S'.l) (hx:bP W o'.aw o'.nw o'.kw ws'):gO w B T0 T1 T2 P T' S' N' cu' ws' o' V:=
 ⟨h.y.kept (hV _ (by have:=h.n;omega)),hp,hh.far54 h.p h.n.2.2 (GR _ _ _ _ _) hV hz,hd.farL h.p (GR _ _ _ _ _) hV,hx.farL h.p (GS _ _ _ _ _) hV,hb,h.n⟩
def gO.is (h:gO w B T0 T1 T2 P T S N cu ws o W):eN W T S ws o:=⟨h.h.is,h.d,h.x⟩
end
structure dG (w:Wd) (C:Co) (S:Sc) (N cu:Int) (q:Os) (P:Option Nat) (K:Nat->Prop) (A:Wd->Prop) (W:Wd):Prop where
 x:opV w C S N cu q W
 y:blk W (w.heap.size+1) Z35 54
 p:∀ p,P=some p->blk W p Z35 54/\w.heap.size+2<=p/\K p
 a:∀ V,Bl W V->A V
section
variable {w : Wd} {C : Co} {S : Sc} {N cu : Int} {q : Os} {P : Option Nat} {K : Nat -> Prop} {A : Wd -> Prop} {W : Wd}
def dG.below (h:dG w C S N cu q P K A W) {W':Wd} (hb:Bl W W'):dG w C S N cu q P K A W':=⟨h.x.below hb,h.y.below hb,fun p e=>⟨(h.p p e).1.below hb,(h.p p e).2⟩,fun V hV=>h.a V (hb.trans (hV.mono hb.size))⟩
def dG.al (h:dG w C S N cu q none K A W) (hk:K W.heap.size):dG w C S N cu q (some W.heap.size) K A (W.alloc (.cells Z35.toArray 54)):=by
 have h2:=h.below ((bW W.heap.size W).alloc (nR _) (.cells Z35.toArray 54));exact⟨h2.x,h2.y,fun p e=>by cases e;exact⟨blk.new W _ 54,by have:=h.y.lt;omega,hk⟩,h2.a⟩
def dG.add (h:dG w C S N cu q P K A W) {W':Wd} {K':Nat->Prop} {D:Wd->Prop} (hb:Bl W W') (hk:∀ p,p<W.heap.size->K p->K' p) (hd:∀ V,Bl W' V->D V):dG w C S N cu q P K' (fun V=>A V/\D V) W':=by
 have h2:=h.below hb;exact⟨h2.x,h2.y,fun p e=>⟨(h2.p p e).1,(h2.p p e).2.1,hk p (h.p p e).1.lt (h.p p e).2.2⟩,fun V hV=>⟨h2.a V hV,hd V hV⟩⟩
end
def dG.go {w:Wd} {C:Co} {S:Sc} {N cu:Int} {q:Os} {A:Wd->Prop} {W:Wd} {X B T0 T1 T2:Nat} {ws:List Nat} {o:Os} (h:dG w C S N cu q (some X) (fun p=>T2<=p\/p<B) A W) (hh:spS B T0 T1 T2 C.ho o.s W) (hd:iB W o.a o.n o.k S.l) (hx:bP W o.aw o.nw o.kw ws) (hB:w.heap.size+2<=B):gO w B T0 T1 T2 X C S N cu ws o (W.setCells X 0 (opL C S N cu o))/\opV w C S N cu q (W.setCells X 0 (opL C S N cu o)):=by
 obtain⟨hp,hn,hk⟩:=h.p X rfl;have hV:∀ k,k≠X->(W.setCells X 0 (opL C S N cu o)).heap[k]?=W.heap[k]?:=fun k hk=>sO X k hk _ _ _;have u8:∀ j,Value.int .u8 j ∉ Z35:=by rw[<- Cs];exact GR _ _ _ _ _
 have u64:∀ j,Value.int .u64 j ∉ Z35:=by rw[<- Cs];exact GS _ _ _ _ _
 refine⟨⟨h.y.other om _ _,hp.put [] Z35 [] (opL C S N cu o) rfl,hh.far54 hp hk u8 hV (sZ _ _ _ _),hd.farL hp u8 hV,hx.farL hp u64 hV,sW om _ _ h.x.b,hn,hB,hk⟩,h.x.p.other om _ _,sW om _ _ h.x.b⟩
section
variable {T C:Co} {N cu r N':Int} {w:World} {b n k:Nat} {Ty:TypeId} {a:Option Addr} {ws:List Nat}
def JF (E:ByteArray) (h2:E.size<=1000) (h3:∀ i (hi:i<E.size),E[i].toNat=48\/E[i].toNat=49):okT E 4000=true/\E.size<=4000:=by
 refine⟨?_,om⟩;unfold okT;rw[qx];refine⟨by simp;omega,List.all_eq_true.2 fun x hx=>?_⟩;obtain⟨j,hj,rfl⟩:=List.getElem_of_mem hx;have hj':j<E.size:=by simpa using hj
 have:=h3 j hj';rw[tI] at this;unfold okC;generalize E.data.toList[j]=y at *;rcases this with e|e
 .have:y=48:=UInt8.toNat_inj.1 e;subst this;rfl
 .have:y=49:=UInt8.toNat_inj.1 e;subst this;rfl
def Hg {bx:List R8} (hb:eE bx r) (h0:0<=r) (hn:¬ wrP bx):∃ k:Nat,r=(k:Int)/\k<(bA bx r).length/\onI (bA bx r)=k/\∃ h:k<(bA bx r).length,(bA bx r)[k].x≠0:=by
 rcases hb with⟨rfl,_⟩|⟨i,rfl,hi,hx,_⟩
 .omega
 have hq:∀ k (h:k<bx.length),¬ onW bx[k]:=Classical.not_not.1 hn;have hl:i<(bA bx (i:Int)).length:=by rw[Gj];exact hi
 refine⟨i,rfl,hl,?_,hl,?_⟩
 .have e:=vo hi hx (qy ⟨hq,rfl⟩) om;unfold onI;rw[List.findIdx_eq hl];refine⟨?_,fun j hj=>?_⟩
  .simp only[e];simp
  .have:=hq j om;simp only[e,List.getElem_set];rw[zb om];simpa[onW] using this
 .simp only[vo hi hx (qy ⟨hq,rfl⟩) (show (-1:Int)<0 by omega)];simp
def Iz (hok:g9 C) (hp:C.p=0) (hr:eE C.ho.bx r) (h0:0<=r):∃ k:Nat,r=(k:Int)/\∃ hk:k<(bA C.ho.bx r).length,dq (rdC C r)=eV (bA C.ho.bx r)[k].e (bA C.ho.bx r)[k].i (bA C.ho.bx r)[k].r (bA C.ho.bx r)[k].d (bA C.ho.bx r)[k].l.length (bA C.ho.bx r)[k].l/\okT (dq (rdC C r)) 4000=true/\(dq (rdC C r)).size<=4000/\10<=(dq (rdC C r)).size:=by
 have hn:¬ wrP C.ho.bx:=fun h=>by have:=(hok.s.2 h).1;omega
 obtain⟨k,e,hk,ho,_,hx⟩:=Hg hr h0 hn;obtain⟨hw,hb⟩:=It hr h0 hn hok.h.bx.1;have hT:(rdC C r).ho.bx=bA C.ho.bx r:=by unfold rdC;rw[zc ⟨hp,h0⟩];rfl
 have hI:dq (rdC C r)=eV (bA C.ho.bx r)[k].e (bA C.ho.bx r)[k].i (bA C.ho.bx r)[k].r (bA C.ho.bx r)[k].d (bA C.ho.bx r)[k].l.length (bA C.ho.bx r)[k].l:=by
  unfold dq;rw[hT,ho,ql,qA hk];rfl
 have h1:=hb k hk;unfold cZ at h1;rw[zb hx] at h1;have hv:=h1.2.2.2;have hl8:(bA C.ho.bx r)[k].l.length<=8:=by
  have hv2:=hv;unfold vB at hv2;simp only[qx,qQ,beq_iff_eq] at hv2;have hd:=nj (bA C.ho.bx r)[k].r (bA C.ho.bx r)[k].d hv2.1.1.2;have:=hv2.2;omega
 obtain⟨z1,z2,z3⟩:=zP _ _ _ _ _ hv hl8;rw[<- hI] at z1 z2 z3;obtain⟨z4,z5⟩:=JF _ z2 z3;exact⟨k,e,hk,hI,z4,z5,z1⟩
def Iv {S:Sc} {q:Os} (h:blk w b (opL T S N cu q) Ty):w.rangeAt b 11 (hoL T.ho q.s):=blk.loadAt (coM T) (hoL T.ho q.s) (scL S q.a q.n q.k++pk3 N q.aw q.nw q.kw cu) (by have:=h;unfold opL at this;rw[CM] at this;rw[<- qp];exact this)
def Hn {S:Sc} {q:Os} (h:blk w b (opL T S N cu q) Ty):blk (w.setCells b 11 (hoL T.ho q.s)) b (opL T S N cu q) Ty:=by
 have e:opL T S N cu q=coM T++hoL T.ho q.s++(scL S q.a q.n q.k++pk3 N q.aw q.nw q.kw cu):=rfl;rw[e] at h ⊢;exact h.put (coM T) (hoL T.ho q.s) _ (hoL T.ho q.s) rfl
def Gp {S S':Sc} {q:Os} (h:blk w b (opL T S N cu q) Ty):blk (w.setCells b 21 (scL S' a n k)) b (opL T S' N cu ⟨q.s,a,n,k,q.aw,q.nw,q.kw⟩) Ty:=
 h.put (coL T q.s) (scL S q.a q.n q.k) (pk3 N q.aw q.nw q.kw cu) (scL S' a n k) rfl
def Gx {S:Sc} {q:Os} (h:blk w b (opL T S N cu q) Ty):blk (w.setCells b 32 [I J N',sL a n k]) b (opL T S N' cu ⟨q.s,q.a,q.n,q.k,a,n,k⟩) Ty:=by
 have e:opL T S N cu q=(coL T q.s++scL S q.a q.n q.k)++[I J N,sL q.aw q.nw q.kw]++[I J cu]:=rfl;rw[e] at h;exact h.put (coL T q.s++scL S q.a q.n q.k) [I J N,sL q.aw q.nw q.kw] [I J cu] [I J N',sL a n k] rfl
def gO.take {B T0 T1 T2 P:Nat} {S:Sc} {o:Os} {W W':World} (h:gO w B T0 T1 T2 P T S N cu ws o W) (hs:spS B T0 T1 T2 (dk T.ho r) o.s W') (hk:∀ q,T2<=q->q<W.heap.size->W'.heap[q]?=W.heap[q]?) (hb:Below B W W') (e1:S.l=[]) (e2:ws=[]):gO w B T0 T1 T2 P { T with ho:=dk T.ho r } S N cu ws o W':=by
 have hn:=h.n;have hP:W'.heap[P]?=W.heap[P]?:=by
  rcases hn.2.2 with e|e
  .exact hk P e h.p.lt
  .exact hb.block P e
 exact⟨h.y.kept (hb.block _ om),h.p.kept hP,hs,⟨h.d.len,h.d.cap,h.d.small,fun e=>Qz e1 e⟩,⟨h.x.len,h.x.cap,h.x.small,fun e=>Qz e2 e⟩,h.b.trans (hb.mono om),hn⟩
def Gy {S S':Sc} {ws':List Nat} (hok:vf C S N cu ws) (hr:eE C.ho.bx r) (eT:T=rdC C r) (hd:(C.p=0/\0<=r/\S'=sc0/\N'=((dq T).size:Int)/\ws'=wl (lt (dq T)))\/(¬ (C.p=0/\0<=r)/\S'=S/\N'=N/\ws'=ws)) (hw:ws.length<=1048576):(T.p=1->T.tx=true->0<=cu/\cu<64*(ws'.length:Int))/\ws'.length<=1048576:=by
 rcases hd with⟨hp,h0,rfl,rfl,rfl⟩|⟨hne,rfl,rfl,rfl⟩
 .obtain⟨k,_,_,_,_,z5,z1⟩:=Iz hok.c hp hr h0;rw[<- eT] at z5 z1;have hcu:=(hok.i om).1.2.2;rw[dT,ba];exact⟨fun _ _=>by omega,om⟩
 .have e:T=C:=by rw[eT];unfold rdC;rw[zb hne]
  subst e;refine⟨fun h1 h2=>?_,hw⟩;have hs:=hok.s h1 h2;have hl:ws'.length=((dq T).size+63) / 64:=by rw[hs.w,dT,ba]
  exact⟨hs.c0,by have:=hs.c1;omega⟩
end
section
variable {W W':World} {g B T T1:Nat} {ws:List Nat} {f:Nat->Nat}
def Kd (S:Sc) (a:Option Addr) (n k:Nat):(Tp.info? 66).map (·.size)=sQ (scL S a n k).length:=kr
def Kc (N:Int) (a:Option Addr) (n k:Nat):(Tp.info? 67).map (·.size)=sQ ([I J N,sL a n k]:List Value).length:=kr
def I0 (w:World) (C:Co) (S:Sc) (N cu:Int) (ws:List Nat) (q:Os) (h:eN w C S ws q) (hn:C.ho.le 9223372036854775807) (hl:S.l.length<=9223372036854775807) (hw:ws.length<=9223372036854775807) :
  Calls Tp 14 #[aG (opL C S N cu q).toArray,I J 1048576] w fun o w'=>∃ z:Int,o = rT (I J z)/\Bl w w'/\(z = -1\/∃ m':Nat,z=(m':Int)/\C.ho.le 1048576/\S.l.length<=1048576/\ws.length<=1048576):=by
 have H0:Hid (blk (w.alloc (.cells (opL C S N cu q).toArray 69)) w.heap.size (opL C S N cu q) 69/\Bl w (w.alloc (.cells (opL C S N cu q).toArray 69))):=⟨blk.new w _ 69,qw⟩
 have HS:Hid (∀ X,Bl w X->Calls Tp 18 #[aG (coL C q.s).toArray,I J 1048576] X fun o w'=>∃ z:Int,o = rT (I J z)/\Bl X w'/\(z = -1\/∃ m':Nat,z=(m':Int)/\C.ho.le 1048576/\m'<=1048576)):=fun X hX=>FL X C q.s (h.h.below hX) hn;have e1:=h.d.len;have e2:=h.w.len
 have HT:Hid (∀ X m,m<=1048576->Calls Tp 38 #[aG (scL S q.a q.n q.k).toArray,I J ((m:Nat):Int)] X fun o w'=>∃ z:Int,o = rT (I J z)/\Bl X w'/\(z = -1\/∃ m':Nat,z=(m':Int)/\S.l.length<=1048576/\m'<=1048576)):=fun X m hm=>(Ic X S q.a q.n q.k m om hm).mono (by
  rintro o w' ⟨rfl,hb⟩;refine⟨_,rfl,hb,?_⟩
  by_cases g:(q.n:Int)<=(m:Int)
  .rw[zc g];exact qy ⟨m-q.n,om,om,om⟩
  .rw[zb g];exact qr rfl)
 have HU:Hid (∀ X m,m<=1048576->Calls Tp 39 #[pkV N q.aw q.nw q.kw,I J ((m:Nat):Int)] X fun o w'=>∃ z:Int,o = rT (I J z)/\Bl X w'/\(z = -1\/∃ m':Nat,z=(m':Int)/\ws.length<=1048576)):=fun X m hm=>(GN X N q.aw q.nw q.kw m om hm).mono (by
  rintro o w' ⟨rfl,rfl⟩;refine⟨_,rfl,qw,?_⟩
  by_cases g:(q.nw:Int)<=(m:Int)
  .rw[zc g];exact qy ⟨m-q.nw,om,om⟩
  .rw[zb g];exact qr rfl)
 clear h hn hl hw e1 e2;obtain⟨v0,hv0⟩ : ∃ v0,v0=w.alloc (.cells (opL C S N cu q).toArray 69):=⟨_,rfl⟩
 rw[<- hv0] at H0;go_enter Tryz.func14,Tryz.ntmps14;go_upto_region 1 with fail
 change Code.wp _ _ _ _ (w.alloc (.cells (opL C S N cu q).toArray 69));rw[<- hv0];clear hv0;go_wp2_with (refine qG 31 (ku H0.o.1) Tryz.underlying31 (I5 _ _) ?_);refine (HS.o _ H0.o.2).mono ?_;rintro o w1 ⟨z,rfl,hb1,hz⟩;have H1:=ah (qH (H0.o.1.below hb1) (H0.o.2.trans (hb1.mono H0.o.2.size)));clear hb1 H0 HS;rcases hz with rfl|⟨m1,rfl,l1,hm1⟩
 .go_wp2_with fail;go_ret;exact⟨_,rfl,H1.o.2,qr rfl⟩
 have L1:=ah l1;have g1:¬ (m1:Int)<0:=om;clear l1;go_wp2_with (refine qG 66 (kt H1.o.1) Tryz.underlying66 (Kd _ _ _ _) ?_);refine (HT.o _ m1 hm1).mono ?_;rintro o w2 ⟨z,rfl,hb1,hz⟩;have H2:=ah (qH (H1.o.1.below hb1) (H1.o.2.trans (hb1.mono H1.o.2.size)));clear hb1 H1 HT g1;rcases hz with rfl|⟨m2,rfl,l2,hm2⟩
 .go_wp2_with fail;go_ret;exact⟨_,rfl,H2.o.2,qr rfl⟩
 have L2:=ah l2;have g2:¬ (m2:Int)<0:=om;clear l2;go_wp2_with (refine zi 67 [I J N,sL q.aw q.nw q.kw] (od H2.o.1) Tryz.underlying67 (Kc _ _ _ _) ?_);refine (HU.o _ m2 hm2).mono ?_;rintro o w3 ⟨z,rfl,hb1,hz⟩;have H3:=ah (H2.o.2.trans (hb1.mono H2.o.2.size));clear hb1 H2 HU g2;rcases hz with rfl|⟨m3,rfl,l3⟩
 .go_wp2_with fail;go_ret;exact⟨_,rfl,H3.o,qr rfl⟩
 have L3:=ah l3;have g3:¬ (m3:Int)<0:=om;clear l3;go_wp2_with fail;go_ret;exact⟨_,rfl,H3.o,qy ⟨m3,rfl,L1.o,L2.o,L3.o⟩⟩
def iB.up {n k:Nat} {l:List Nat} (h:iB W (sQ ⟨g,0,nn⟩) n k l) (e:W'.heap[g]?=W.heap[g]?):iB W' (sQ ⟨g,0,nn⟩) n k l:=⟨h.len,h.cap,h.small,fun hne=>by
 obtain⟨g0,off,e0,hc⟩:=h.cells hne
 cases e0
 exact⟨g,0,rfl,fun j hj=>(dt e _).trans (hc j hj)⟩⟩
structure cpO (B T:Nat) (ws:List Nat) (q:Os) (s:Wh) (T1 g:Nat) (f:Nat->Nat) (W:World):Prop where
 es:q.s=s.sl
 h:whS B T1 W s
 hd:whD s
 a:q.a=sQ ⟨g,0,nn⟩
 k:q.n=q.k
 b:B<=T1/\T1<=g/\g<T
 r:cm W g q.n f
 w:an W (g+1) (sL q.aw q.nw q.kw) ws
 wb:∀ x,(Value.slice q.aw q.nw q.kw).ownBlock=sQ x->x<T
 wn:q.nw=ws.length
def cpO.same {q:Os} {s:Wh} (h:cpO B T ws q s T1 g f W) (he:∀ x,B<=x->x<T->W'.heap[x]?=W.heap[x]?):cpO B T ws q s T1 g f W':=by
 obtain⟨b1,b2,b3⟩:=h.b;exact⟨h.es,h.h.same fun x a b=>he x a om,h.hd,h.a,h.k,h.b,h.r.up (he g om b3),h.w.otherBlock fun x hx=>he x (by have:=(QC h.w x hx).1;omega) (h.wb x hx),h.wb,h.wn⟩
def cpO.mark {q:Os} {s:Wh} {C:Co} {S:Sc} {N cu:Int} (h:cpO B T ws q s T1 g f W) (hT:T<=W.heap.size) (hn:q.n<=1048576) (hw:ws.length<=1048576) :
  Calls Tp 12 #[aG (opL C S N cu q).toArray,I J 1] W fun o w1=>∃ k:Nat,o = rT (I J (k:Int))/\(∀ x,T<=x->x<W.heap.size->w1.heap[x]?=W.heap[x]?)/\Below B W w1:=by
 obtain⟨qs,qa,qn,qk,qaw,qnw,qkw⟩:=q;obtain⟨es,hh,hd,ea,ek,⟨b1,b2,b3⟩,hr,ho,hob,hwn⟩:=h;simp only at es ea ek hr ho hob hwn hn;subst es ea ek;have H0:Hid (blk (W.alloc (.cells (opL C S N cu ⟨s.sl,sQ ⟨g,0,nn⟩,qn,qn,qaw,qnw,qkw⟩).toArray 54)) W.heap.size (opL C S N cu ⟨s.sl,sQ ⟨g,0,nn⟩,qn,qn,qaw,qnw,qkw⟩) 54/\Bl W (W.alloc (.cells (opL C S N cu ⟨s.sl,sQ ⟨g,0,nn⟩,qn,qn,qaw,qnw,qkw⟩).toArray 54))):=⟨blk.new W _ 54,qw⟩
 obtain⟨v0,hv0⟩ : ∃ v0,v0=W.alloc (.cells (opL C S N cu ⟨s.sl,sQ ⟨g,0,nn⟩,qn,qn,qaw,qnw,qkw⟩).toArray 54):=⟨_,rfl⟩
 rw[<- hv0] at H0;have HM:=ah (CW (C:=C) (hh.same fun x _ b=>H0.o.2.block x om) hd (by have:=H0.o.2.size;omega) b1);have HB:Hid ((B<=T1/\T1<=g/\g<T/\T<=W.heap.size)/\cm W g qn f/\an W (g+1) (sL qaw qnw qkw) ws/\(∀ x,(Value.slice qaw qnw qkw).ownBlock=sQ x->x<T)/\qnw=ws.length):=⟨⟨b1,b2,b3,hT⟩,hr,ho,hob,hwn⟩
 have HN:=ah (qH hn hw);clear hh hd b1 b2 b3 hr ho hob hwn hT hn hw;go_enter Tryz.func12,Tryz.ntmps12;go_upto_region 1 with fail
 change Code.wp _ _ _ _ (W.alloc (.cells (opL C S N cu ⟨s.sl,sQ ⟨g,0,nn⟩,qn,qn,qaw,qnw,qkw⟩).toArray 54));rw[<- hv0];clear hv0;go_wp2_with (refine qG 43 (ku H0.o.1) Tryz.underlying43 (cy _ _) ?_);refine HM.o.mono ?_;rintro o w1 ⟨k1,rfl,o1,bl1,hk1⟩;have H1:Hid (blk w1 W.heap.size (opL C S N cu ⟨s.sl,sQ ⟨g,0,nn⟩,qn,qn,qaw,qnw,qkw⟩) 54/\Below B W w1/\(∀ x,T1<=x->x<W.heap.size->w1.heap[x]?=W.heap[x]?)/\W.heap.size<w1.heap.size/\k1<=100000000000000):=by
  have hb:=HB.o.1;have hl:=H0.o.1.lt;exact⟨H0.o.1.kept (o1 _ om hl),(H0.o.2.mono om).trans bl1,fun x a b=>(o1 x a om).trans (H0.o.2.block x b),nL hl bl1.size,hk1⟩
 clear o1 bl1 hk1 HM H0;have R1:Hid (cm w1 g qn f):=HB.o.2.1.up (H1.o.2.2.1 g (by have:=HB.o.1;omega) (by have:=HB.o.1;omega));go_wp2_with (refine qG 49 (kt H1.o.1) Tryz.underlying49 (kJ _ _ _ _) ?_);refine (oo w1 S g qn qn k1 f R1.o (by have:=HB.o.1;have:=H1.o;omega) (nR _) HN.o.1 (by have:=H1.o.2.2.2.2;omega)).mono ?_;rintro o w2 ⟨rfl,hm2⟩;have H2:Hid (blk w2 W.heap.size (opL C S N cu ⟨s.sl,sQ ⟨g,0,nn⟩,qn,qn,qaw,qnw,qkw⟩) 54/\Below B W w2/\(∀ x,T1<=x->x≠g->x<W.heap.size->w2.heap[x]?=W.heap[x]?)/\W.heap.size<w2.heap.size/\an w2 (g+1) (sL qaw qnw qkw) ws):=by
  have hb:=HB.o.1;obtain⟨u1,u2,u3,u4,u5⟩:=H1.o;have hoth:∀ x,T1<=x->x≠g->x<W.heap.size->w2.heap[x]?=W.heap[x]?:=fun x a b c=>(hm2.oth x b om).trans (u3 x a c);refine⟨u1.kept (hm2.oth _ om om),u2.trans (hm2.bel.mono om),hoth,nL u4 hm2.bel.size,HB.o.2.2.1.otherBlock fun x hx=>?_⟩;have h1:=QC HB.o.2.2.1 x hx;exact hoth x om om h1.2
 have HK:=ah H1.o.2.2.2.2;clear hm2 H1 R1;go_wp2_with (refine qG 52 (od H2.o.1) Tryz.underlying52 (ur _ _ _ _) ?_);refine (kV w2 (g+1) N qaw qnw qkw (k1+qn) ws H2.o.2.2.2.2 HB.o.2.2.2.2 (by have:=HK.o;have:=HN.o;have:=HB.o.2.2.2.2;omega) (by have:=HB.o.1;have:=H2.o.2.2.2.1;omega)).mono ?_;rintro o w3 ⟨rfl,_,bl3,o3⟩;have H3:Hid ((∀ x,T<=x->x<W.heap.size->w3.heap[x]?=W.heap[x]?)/\Below B W w3):=by
  have hb:=HB.o.1;obtain⟨u1,u2,u3,u4,u5⟩:=H2.o;have hh:=yz u5;refine⟨fun x a b=>(o3 x om fun y hy e=>?_).trans (u3 x om om b),u2.trans (bl3.mono om)⟩;have:=HB.o.2.2.2.1 _ (hh y hy);omega
 clear bl3 o3 H2;go_wp2_with fail;go_ret;exact⟨_,rfl,H3.o⟩
end
def Hp {w:Wd} {b:Nat} {T T':Co} {S:Sc} {N cu:Int} {q:Os} {s:Sl} {Ty:TypeId} (h:blk w b (opL T S N cu q) Ty):blk (w.setCells b 0 (coL T' s)) b (opL T' S N cu ⟨s,q.a,q.n,q.k,q.aw,q.nw,q.kw⟩) Ty:=by
 have e:opL T S N cu q=[]++coL T q.s++(scL S q.a q.n q.k++pk3 N q.aw q.nw q.kw cu):=rfl;rw[e] at h;exact h.put [] (coL T q.s) _ (coL T' s) rfl
structure toS (w:Wd) (L L':List Value) (A:Wd->Prop) (W:Wd):Prop where
 a:blk W w.heap.size L 69
 r:blk W (w.heap.size+1) Z35 54
 o:blk W (w.heap.size+2) L' 54
 b:Bl w W
 k:∀ V,(∀ x,w.heap.size+3<=x->x<W.heap.size->V.heap[x]?=W.heap[x]?)->A V
section
variable {w : Wd} {L L' L2 : List Value} {A D : Wd -> Prop} {W W' : Wd}
def toS.add (h:toS w L L' A W) (hb:Bl W W') (hd:∀ V,(∀ x,W.heap.size<=x->x<W'.heap.size->V.heap[x]?=W'.heap[x]?)->D V):toS w L L' (fun V=>A V/\D V) W':=
 ⟨h.a.below hb,h.r.below hb,h.o.below hb,h.b.trans (hb.mono h.b.size),fun V hV=>⟨h.k V fun x h1 h2=>(hV x h1 (nL h2 hb.size)).trans (hb.block x h2),hd V fun x h1 h2=>hV x (by have:=h.o.lt;omega) h2⟩⟩
def toS.put (h:toS w L L' A W) (ho:blk W' (w.heap.size+2) L2 54) (he:∀ x,x≠w.heap.size+2->W'.heap[x]?=W.heap[x]?) (hz:W'.heap.size=W.heap.size) (hb:Bl w W'):toS w L L2 A W':=
 ⟨h.a.kept (he _ om),h.r.kept (he _ om),ho,hb,fun V hV=>h.k V fun x h1 h2=>(hV x h1 om).trans (he x om)⟩
end
def IZ (w:Wd) (C:Co) (S:Sc) (N cu:Int) (ws:List Nat) (q:Os) (h:eN w C S ws q) (hm:C.ho.le 1048576) (hl:S.l.length<=1048576) (hw:ws.length<=1048576) :
  Calls Tp 16 #[aG (opL C S N cu q).toArray] w fun o w'=>∃ x:Os,o = rT (aG (opL C S N cu x).toArray)/\St w.heap.size w' (fun W=>eN W C S ws x)/\(∃ s T1 g f,cpO w.heap.size w'.heap.size ws x s T1 g f w')/\dz x.s/\(∃ g,x.aw=sQ ⟨g,0,nn⟩)/\Bl w w':=by
 obtain⟨v0,hv0⟩ : ∃ v0,v0=((w.alloc (.cells (opL C S N cu q).toArray 69)).alloc (.cells Z35.toArray 54)).alloc (.cells Z35.toArray 54):=⟨_,rfl⟩
 have H0:Hid (toS w (opL C S N cu q) (opL zCo scZ 0 0 zOs) (fun _=>True) v0):=by
  rw[hv0];refine⟨((blk.new w _ 69).alloc _).alloc _,?_,?_,(qw.alloc pQ _).alloc (by simp;omega) _,fun _ _=>trivial⟩
  .have:=(blk.new (w.alloc (.cells (opL C S N cu q).toArray 69)) Z35 54).alloc (.cells Z35.toArray 54);simpa using this
  .have:=blk.new ((w.alloc (.cells (opL C S N cu q).toArray 69)).alloc (.cells Z35.toArray 54)) Z35 54;rw[Cs];simpa using this
 have HH:=ah h;have HL:=ah (qH hm (qH hl hw));clear h hm hl hw;go_enter Tryz.func16,Tryz.ntmps16;go_upto_region 2 with fail
 change Code.wp _ _ _ _ (((w.alloc (.cells (opL C S N cu q).toArray 69)).alloc (.cells Z35.toArray 54)).alloc (.cells Z35.toArray 54));rw[<- hv0];clear hv0;go_wp2_with (refine qG 31 (ku H0.o.a) Tryz.underlying31 (I5 _ _) ?_);refine (Dd _ C q.s (HH.o.h.below H0.o.b) HL.o.1).mono ?_;rintro o w1 ⟨s,rfl,q1,q2,q3,q4,hb1⟩;have H1:Hid (toS w (opL C S N cu q) (opL zCo scZ 0 0 zOs) (fun V=>True/\(aK V C.ho s.sl/\whS v0.heap.size w1.heap.size V s)) w1):=H0.o.add hb1 fun V hV=>⟨q1 V hV,q2.same hV⟩
 have HD:Hid (whD s/\dz s.sl/\v0.heap.size<=w1.heap.size/\w.heap.size<=v0.heap.size):=⟨q3,q4,hb1.size,H0.o.b.size⟩
 clear q1 q2 q3 q4 hb1 H0;generalize v0.heap.size=B0 at *;go_upto_region 3 with (refine QE (P:=Tp) rfl 43 _ _ rfl (w.heap.size+2) 0 (coL C s.sl).toArray rfl rfl (H1.o.o.there 0 21 (by rw[uL];decide)) (nO _ _) (cO _ _) ?_;generalize hW2:World.setCells w1 (w.heap.size+2) 0 _=w2;have HW2:Hid (_=w2):=hW2;clear hW2)
 have H2:Hid (toS w (opL C S N cu q) (opL C scZ 0 0 (opZ s.sl)) (fun V=>True/\(aK V C.ho s.sl/\whS B0 w1.heap.size V s)) w2/\w2.heap.size=w1.heap.size):=by
  have e:w1.setCells (w.heap.size+2) 0 (coL C s.sl)=w2:=HW2.o;rw[<- e];exact⟨H1.o.put (Hp H1.o.o) (fun x hx=>sO _ x hx _ _ _) (sZ ..) (sW om _ _ H1.o.b),sZ ..⟩
 clear HW2 H1;go_wp2_with (refine qG 66 (kt H2.o.1.a) Tryz.underlying66 (Kd _ _ _ _) ?_);refine (Hz w2 S q.a q.n q.k (HH.o.d.below H2.o.1.b) (by have:=HH.o.d.len;have:=HL.o.2.1;omega)).mono ?_;rintro o w3 ⟨g,rfl,q1,hb3,g1,g2,f,q2⟩;have H3:Hid (toS w (opL C S N cu q) (opL C scZ 0 0 (opZ s.sl)) (fun V=>(True/\(aK V C.ho s.sl/\whS B0 w1.heap.size V s))/\(iB V (sQ ⟨g,0,nn⟩) q.n q.n S.l/\cm V g q.n f)) w3):=H2.o.1.add hb3 fun V hV=>⟨q1.up (hV g g1 g2),q2.up (hV g g1 g2)⟩
 have HG:Hid (w1.heap.size<=g/\g<w3.heap.size):=⟨by have:=H2.o.2;omega,g2⟩
 clear q1 q2 hb3 g1 g2 H2;generalize w1.heap.size=T1 at *;go_upto_region 4 with (refine QE (P:=Tp) rfl 49 _ _ rfl (w.heap.size+2) 21 (scL S (sQ ⟨g,0,nn⟩) q.n q.n).toArray rfl rfl (H3.o.o.there 21 11 (by rw[uL];decide)) dV (iO _ _ _ _) ?_;generalize hW4:World.setCells w3 (w.heap.size+2) 21 _=w4;have HW4:Hid (_=w4):=hW4;clear hW4)
 have H4:Hid (toS w (opL C S N cu q) (opL C S 0 0 ⟨s.sl,sQ ⟨g,0,nn⟩,q.n,q.n,nn,0,0⟩) (fun V=>(True/\(aK V C.ho s.sl/\whS B0 T1 V s))/\(iB V (sQ ⟨g,0,nn⟩) q.n q.n S.l/\cm V g q.n f)) w4/\w4.heap.size=w3.heap.size):=by
  have e:w3.setCells (w.heap.size+2) 21 (scL S (sQ ⟨g,0,nn⟩) q.n q.n)=w4:=HW4.o;rw[<- e];exact⟨H3.o.put (Gp H3.o.o) (fun x hx=>sO _ x hx _ _ _) (sZ ..) (sW om _ _ H3.o.b),sZ ..⟩
 clear HW4 H3;go_wp2_with (refine zi 67 [I J N,sL q.aw q.nw q.kw] (od H4.o.1.a) Tryz.underlying67 (Kc _ _ _ _) ?_);refine (GM w4 N q.aw q.nw q.kw ws (HH.o.w.below H4.o.1.b) (by have:=HH.o.w.len;have:=HL.o.2.2;omega)).mono ?_;rintro o w5 ⟨gw,rfl,q1,hb5⟩;have gl:=QC q1 gw rfl;have H5:Hid (toS w (opL C S N cu q) (opL C S 0 0 ⟨s.sl,sQ ⟨g,0,nn⟩,q.n,q.n,nn,0,0⟩) (fun V=>((True/\(aK V C.ho s.sl/\whS B0 T1 V s))/\(iB V (sQ ⟨g,0,nn⟩) q.n q.n S.l/\cm V g q.n f))/\an V (g+1) (sL (sQ ⟨gw,0,nn⟩) q.nw q.nw) ws) w5):=H4.o.1.add hb5 fun V hV=>(q1.lower (by have:=H4.o.2;have:=HG.o;omega)).otherBlock fun x hx=>by cases hx;exact hV gw gl.1 gl.2
 have HG5:Hid (T1<=g/\g<w5.heap.size/\gw<w5.heap.size):=⟨HG.o.1,by have:=HG.o;have:=H4.o.2;have:=hb5.size;omega,gl.2⟩
 clear q1 hb5 gl H4 HG;go_upto_region 5 with (refine QE (P:=Tp) rfl 52 _ _ rfl (w.heap.size+2) 32 #[I J N,sL (sQ ⟨gw,0,nn⟩) q.nw q.nw] rfl rfl (H5.o.o.there 32 2 (by rw[uL];decide)) (Dh _ _ _ _) (CB _ _ _ _) ?_;generalize hW6:World.setCells w5 (w.heap.size+2) 32 _=w6;have HW6:Hid (_=w6):=hW6;clear hW6)
 obtain⟨x,ex⟩ : ∃ x:Os,x=⟨s.sl,sQ ⟨g,0,nn⟩,q.n,q.n,sQ ⟨gw,0,nn⟩,q.nw,q.nw⟩:=⟨_,rfl⟩
 have H6:Hid (toS w (opL C S N cu q) (opL C S N 0 x) (fun V=>((True/\(aK V C.ho s.sl/\whS B0 T1 V s))/\(iB V (sQ ⟨g,0,nn⟩) q.n q.n S.l/\cm V g q.n f))/\an V (g+1) (sL (sQ ⟨gw,0,nn⟩) q.nw q.nw) ws) w6/\w6.heap.size=w5.heap.size):=by
  have e:w5.setCells (w.heap.size+2) 32 [I J N,sL (sQ ⟨gw,0,nn⟩) q.nw q.nw]=w6:=HW6.o;rw[<- e,ex];exact⟨H5.o.put (Gx H5.o.o) (fun x hx=>sO _ x hx _ _ _) (sZ ..) (sW om _ _ H5.o.b),sZ ..⟩
 have HEX:=ah ex;clear HW6 H5 ex;have y34:=H6.o.1.a.cell 34 (I J cu) rfl;have z34:=H6.o.1.o.cell 34 (I J 0) rfl;have f34:=H6.o.1.o.free 34;go_upto_region 6 with fail
 have H7:Hid (toS w (opL C S N cu q) (opL C S N cu x) (fun V=>((True/\(aK V C.ho s.sl/\whS B0 T1 V s))/\(iB V (sQ ⟨g,0,nn⟩) q.n q.n S.l/\cm V g q.n f))/\an V (g+1) (sL (sQ ⟨gw,0,nn⟩) q.nw q.nw) ws) (w6.setCell ⟨w.heap.size+2,34,nn⟩ (I J cu))/\(w6.setCell ⟨w.heap.size+2,34,nn⟩ (I J cu)).heap.size=w5.heap.size):=by
  refine⟨H6.o.1.put ?_ (fun y hy=>QB w6 ⟨w.heap.size+2,34,nn⟩ y _ hy) pQ (H6.o.1.b.setCell (by show w.heap.size<=w.heap.size+2;omega) _),by simpa using H6.o.2⟩;have e:(opL C S N 0 x).set 34 (I J cu)=opL C S N cu x:=rfl;rw[<- e];exact H6.o.1.o.set 34 (I J cu)
 clear H6 y34 z34 f34;generalize w6.setCell ⟨w.heap.size+2,34,nn⟩ (I J cu)=w7 at *;go_wp2_with (first
  | (refine qG 54 H7.o.1.o.load Tryz.underlying54 (eD _ _ _ _ _) ?_)
  | (refine QE (P:=Tp) rfl 54 _ _ rfl (w.heap.size+1) 0 (opL C S N cu x).toArray rfl rfl (H7.o.1.r.there 0 35 (nR _)) (fO _ _ _ _ _) (ey _ _ _ _ _) ?_;generalize hW8:World.setCells w7 (w.heap.size+1) 0 _=w8;have HW8:Hid (_=w8):=hW8;clear hW8))
 have e8:w7.setCells (w.heap.size+1) 0 (opL C S N cu x)=w8:=HW8.o;have hF:blk w8 (w.heap.size+1) (opL C S N cu x) 54:=by rw[<- e8];exact H7.o.1.r.put [] Z35 [] _ rfl
 have hL:=QJ (P:=Tp) w8 (w.heap.size+1) 0 54 _ _ hF.load Tryz.underlying54 rfl (eD _ _ _ _ _);refine bC Tryz.results16 hL ?_;have hag:∀ y,w.heap.size+3<=y->w8.heap[y]?=w7.heap[y]?:=fun y hy=>by rw[<- e8];exact sO _ y om _ _ _
 have hsz:w8.heap.size=w7.heap.size:=by rw[<- e8,sZ]
 have hA:∀ V:Wd,(∀ k,w.heap.size<=k->k<w8.heap.size->V.heap[k]?=w8.heap[k]?)->_:=fun V hV=>H7.o.1.k V fun y h1 h2=>(hV y om om).trans (hag y h1);have hG:=HG5.o;have hS7:=H7.o.2;have hD:=HD.o;have hN:=HH.o;rw[HEX.o];refine⟨_,rfl,fun V hV=>?_,⟨s,T1,g,f,?_⟩,hD.2.1,⟨gw,rfl⟩,?_⟩
 .obtain⟨⟨⟨_,a1,_⟩,a3,_⟩,a5⟩:=hA V hV;exact⟨a1,a3,a5.words hN.w.len hN.w.small (a5.cap hN.w.len)⟩
 .obtain⟨⟨⟨_,_,a2⟩,_,a4⟩,a5⟩:=hA w8 fun _ _ _=>rfl;exact⟨rfl,a2.mono om (nR _),hD.1,rfl,rfl,⟨om,hG.1,om⟩,a4,a5,fun y hy=>by cases hy;show gw<_;omega,hN.w.len⟩
 .rw[<- e8];exact sW om 0 _ H7.o.1.b
def hIm (W:World) (P:Nat) (E:ByteArray):Prop:=∃ e i r d l,(∀ V,Bl W V->Calls Tp 67 #[pT (sQ ⟨P,0,nn⟩)] V fun o w'=>∃ ao m c,o = rT (frV e i r d ao m c)/\iB w' ao m c l/\Bl V w')/\∀ V ao m c,Bl W V->iB V ao m c l->Calls Tp 66 #[frV e i r d ao m c] V fun o w'=>∃ aw nw kw,o = rT (pkV (E.size:Int) aw nw kw)/\an w' V.heap.size (sL aw nw kw) (wl (lt E))/\nw=(wl (lt E)).length/\Bl V w'
structure hoS (W:World) (R M Q:Nat) (S:Sc) (N cu:Int) (o:Os) (Z:Int) (aw:Option Addr) (nw kw:Nat) (X:World):Prop where
 r:blk X R (ocL M S N cu o) 137
 q:blk X Q [I J Z,sL aw nw kw] 52
 b:Bl W X
def hoS.below {W:World} {R M Q:Nat} {S:Sc} {N cu:Int} {o:Os} {Z:Int} {aw:Option Addr} {nw kw:Nat} {X X':World} (h:hoS W R M Q S N cu o Z aw nw kw X) (hb:Bl X X'):hoS W R M Q S N cu o Z aw nw kw X':=⟨h.r.below hb,h.q.below hb,h.b.trans (hb.mono h.b.size)⟩
def J0 (W:World) (M R P:Nat) (C:Co) (S:Sc) (N cu:Int) (ws:List Nat) (o:Os) (hR:blk W R (ocL M S N cu o) 137) (x0:W.cell? ⟨M,0,nn⟩=sQ (pT (sQ ⟨P,0,nn⟩))) (y3:W.cell? ⟨M,3,nn⟩=sQ (I J C.p)) (y9:W.cell? ⟨M,9,nn⟩=sQ (bO C.tx)) (hp:C.p=1) (ht:C.tx=true) (tab:W.rangeAt 0 0 bV) (hz:0<W.heap.size) (hd:iB W o.a o.n o.k S.l) (hx:bP W o.aw o.nw o.kw ws) (hw:ws.length<=1048576) (him:hIm W P (dq C)) (hgo:∀ k,k<(dq C).size->goL ((lt (dq C)).take k)) (ko:okT (dq C) 4000=true) (kz:(dq C).size<=4000) :
  Calls Tp 96 #[pT (sQ ⟨R,0,nn⟩)] W fun o w'=>cK o (snP C S N cu ws)/\Bl W w':=by
 have HSN:Hid (Calls Tp 65 #[pT (sQ ⟨M,0,nn⟩)] W fun o w'=>o = rT (bO true)/\w'=W):=by
  have:=ir W M _ _ C.p rfl y3 y9;rw[hp,ht] at this;exact this
 have HT:Hid (∀ V,Bl W V->V.rangeAt 0 0 bV):=fun V hV j v hv=>(hV.cell (p:=⟨0,0+j,nn⟩) (by exact hz)).trans (tab j v hv);have HZ:=ah hz;obtain⟨fe,fi,fr,fd,fl,hf1,hf2⟩:=him;have HF1:=ah hf1;have HF2:=ah hf2;have HD:=ah hd;have HX:=ah hx;have HW:=ah hw;have HGO:=ah hgo;have HKO:=ah ko;have HKZ:=ah kz;have HRR:=ah hR;have z0:=hR.cell 0 (pT (sQ ⟨M,0,nn⟩)) rfl;clear tab hz hd hx hw hf1 hf2 hgo ko kz hR y3 y9 hp ht;go_enter Tryz.func96,Tryz.ntmps96;go_wp2_with fail;refine HSN.o.mono ?_;rintro ox wa ⟨rfl,hwa⟩;subst hwa;go_wp2_with fail;refine (HF1.o _ (bW _ _)).mono ?_;rintro ox w1 ⟨ao,m,c,rfl,hi1,hb1⟩;have HB1:=ah hb1;have HI1:=ah hi1;clear hi1 hb1 HSN HF1 z0 x0;go_wp2_with fail;refine (HF2.o _ ao m c HB1.o HI1.o).mono ?_;rintro ox w2 ⟨aw,nw,kw,rfl,ho2,hn2,hb2⟩;have HB2:Hid (Bl wa w2):=HB1.o.trans (hb2.mono HB1.o.size);have HW2:Hid (bP w2 aw nw kw (wl (lt (dq C)))):=ho2.words hn2 (kE _) (ho2.cap hn2);clear ho2 hn2 hb2 HB1 HI1 HF2;have HN2:Hid (blk (w2.alloc (.cells [I J 0,sL nn 0 0].toArray 52)) w2.heap.size [I J 0,sL nn 0 0] 52):=blk.new w2 _ 52;go_upto_region 3 with (refine QE (P:=Tp) rfl 52 _ _ rfl w2.heap.size 0 #[I J ((dq C).size:Int),sL aw nw kw] rfl rfl (HN2.o.there 0 2 (nR _)) (Dh _ _ _ _) (CB _ _ _ _) ?_;generalize hW3:World.setCells (w2.alloc _) w2.heap.size 0 _=w3;have HW3:Hid (_=w3):=hW3;clear hW3)
 have e3:=HW3.o;have hb3:Bl w2 w3:=by rw[<- e3];exact sW (nR _) _ _ qw
 have H3:Hid (hoS wa R M w2.heap.size S N cu o ((dq C).size:Int) aw nw kw w3/\bP w3 aw nw kw (wl (lt (dq C)))):=by
  refine⟨⟨(HRR.o.below HB2.o).below hb3,?_,HB2.o.trans (hb3.mono HB2.o.size)⟩,HW2.o.below hb3⟩;rw[<- e3];exact HN2.o.put [] [I J 0,sL nn 0 0] [] [I J ((dq C).size:Int),sL aw nw kw] rfl
 clear e3 hb3 HW3 HN2 HB2 HW2 HRR;generalize w2.heap.size=Q at *;refine QK (S:=fun X=>hoS wa R M Q S N cu o ((dq C).size:Int) aw nw kw X) kr ?_;have hS:hoS wa R M Q S N cu o ((dq C).size:Int) aw nw kw w3.drew:=H3.o.1.below (bW _ _).drew;have HWD:Hid (bP w3.drew aw nw kw (wl (lt (dq C)))):=H3.o.2.below (bW _ _).drew;clear H3;refine tk 0 ?_;refine tk 1 ?_;refine tk 2 ?_;refine wU 3 (pkV N o.aw o.nw o.kw) rfl (QM (by rfl) 52 (.tmp 21) rfl R 12 rfl [I J N,sL o.aw o.nw o.kw] _ (fun X h=>DC h.r) Tryz.underlying52 rfl (ur _ _ _ _)) hS ?_;simp only[aZ];refine wU 4 (pkV ((dq C).size:Int) aw nw kw) rfl (QM (by rfl) 52 (.tmp 3) rfl Q 0 rfl [I J ((dq C).size:Int),sL aw nw kw] _ (fun X h=>h.q.load) Tryz.underlying52 rfl (ur _ _ _ _)) hS ?_;simp only[aZ];refine al 5 fun K hK=>?_;go_simp;refine (I9 w3.drew N _ o.aw aw o.nw o.kw nw kw ws _ (HX.o.below hS.b) HWD.o (by have:=HX.o.len;have:=HW.o;omega) (by have:=HWD.o.len;rw[dT,ba] at this;have:=HKZ.o;omega)).mono ?_;rintro ox w5 ⟨⟨b5,rfl,h5⟩,hb5⟩;have H5:=ah h5;have HWE:Hid (bP w5 aw nw kw (wl (lt (dq C)))):=HWD.o.below hb5;clear h5 HWD;go_wp2_with fail;refine hK.out _ _ (hS.below hb5) (fun hS2=>?_);clear hS hK K hb5;have hS:=hS2;clear hS2;refine tk 6 ?_;have kz:=HKZ.o;cases b5
 .have HNO:Hid (¬ snP C S N cu ws):=fun e=>by have:=H5.o.2 ⟨e.n,e.w⟩;cases this
  refine tn 7 ?_;refine tn 8 ?_;refine tn 9 ?_;refine tn 10 ?_;refine tn 11 ?_;refine tn 12 ?_;refine tn 13 ?_;refine tn 14 ?_;refine tk 15 ?_;refine tk 16 ?_;refine tn 17 ?_;refine tn 18 ?_;refine tn 19 ?_;refine tn 20 ?_;refine tn 21 ?_;refine tn 22 ?_;refine tn 23 ?_;refine tn 24 ?_;refine tn 25 ?_;refine tn 26 ?_;refine tn 27 ?_;refine tn 28 ?_;refine tn 29 ?_;refine tk 30 ?_;refine tk 31 ?_;have hbl:=hS.b;refine QI kr ?_ _;clear hS;go_wp2;go_ret;exact⟨⟨false,rfl,fun e=>(by cases e),fun e=>Qz e HNO.o⟩,hbl⟩
 refine tk 7 ?_;refine tk 8 ?_;refine tk 9 ?_;refine tk 10 ?_ (hy:=fun X hX=>by (have y:=hX.r.cell 14 (I J cu) rfl;go_simp;try rfl));refine tk 11 ?_;refine tk 12 ?_ (hy:=fun X hX=>by (have y:=hX.q.cell 0 (I J ((dq C).size:Int)) rfl;go_simp;try rfl));refine tk 13 ?_ (v:=I J (((dq C).size:Int)-1)) (hy:=fun X hX=>by (go_simp;rw[QS];omega));refine al 14 fun K hK=>?_;rw[zc (by rfl)];go_simp;obtain⟨g6,e6⟩ : ∃ g,decide ((0:Int)<=cu/\cu<=((dq C).size:Int)-1)=g:=⟨_,rfl⟩
 refine (dh _ cu 0 (((dq C).size:Int)-1)).mono ?_;rintro ox w6 ⟨rfl,hw6⟩;rw[e6];have HE6:=ah e6;clear e6;have hb5:Bl w5 w6:=by rw[<- hw6];exact bW _ _
 have HWF:Hid (bP w6 aw nw kw (wl (lt (dq C)))):=HWE.o.below hb5;clear hw6 HWE;go_wp2_with fail;refine hK.out _ _ (hS.below hb5) (fun hS2=>?_);clear hS hK K hb5;have hS:=hS2;clear hS2;refine tk 15 ?_;refine tk 16 ?_;cases g6
 .have HNO:Hid (¬ snP C S N cu ws):=fun e=>by have h1:=e.c0;have h2:=e.c1;exact Qz ⟨h1,om⟩ (of_decide_eq_false HE6.o)
  refine tn 17 ?_;refine tn 18 ?_;refine tn 19 ?_;refine tn 20 ?_;refine tn 21 ?_;refine tn 22 ?_;refine tn 23 ?_;refine tn 24 ?_;refine tn 25 ?_;refine tn 26 ?_;refine tn 27 ?_;refine tn 28 ?_;refine tn 29 ?_;refine tk 30 ?_;refine tk 31 ?_;have hbl:=hS.b;refine QI kr ?_ _;clear hS;go_wp2;go_ret;exact⟨⟨false,rfl,fun e=>(by cases e),fun e=>Qz e HNO.o⟩,hbl⟩
 have hcu:=qP HE6.o;obtain⟨k,rfl⟩:=Int.eq_ofNat_of_zero_le hcu.1;have hk:k<(dq C).size:=om;have hk':k<=(dq C).size:=qB hk;have HNW:=ah (H5.o.1 (by trivial));have HR:Hid (snP C S N (k:Int) ws↔S=scO ((lt (dq C)).take k)):=⟨fun e=>by have:=e.s;rw[Int.toNat_natCast] at this;exact this,fun e=>⟨HNW.o.1,HNW.o.2,Int.natCast_nonneg _,om,by rw[Int.toNat_natCast];exact e⟩⟩
 have hG:=HGO.o k hk
 have HSC:Hid (∀ V,Bl wa V->Calls Tp 64 #[.string ((dq C).extract 0 k)] V fun o w'=>∃ a n kk,o = rT (aG (scL (scO ((lt (dq C)).take k)) a n kk).toArray)/\iB w' a n kk (scO ((lt (dq C)).take k)).l/\Bl V w'):=fun V hV=>by
  have:=nW V (HT.o V hV) (nL HZ.o hV.size) ((dq C).extract 0 k) (by rw[show (((dq C).extract 0 k).data.toList.map (·.toNat))=lt ((dq C).extract 0 k) from rfl,Gt];exact hG);rw[show (((dq C).extract 0 k).data.toList.map (·.toNat))=lt ((dq C).extract 0 k) from rfl,Gt] at this;refine this.mono ?_;rintro ox w' ⟨a,n,kk,rfl,q1,q2,q3⟩;have hsm:=(At.of hG _ (nR _)).sim.small;rw[List.take_length] at hsm;exact⟨a,n,kk,rfl,q1.is hsm,q3⟩
 have HUN:Hid (∀ V,bP V aw nw kw (wl (lt (dq C)))->Calls Tp 164 #[pkV ((dq C).size:Int) aw nw kw] V fun o w'=>o = rT (.string (dq C))/\Bl V w'):=fun V hV=>by
  have hL:=gC HKO.o;have:=IB V (dq C).size aw nw kw _ hV (by rw[<- ba];exact DB _ hL (by rw[ba];exact kz));rw[<- ba (dq C),IX _ hL,ya,ba] at this;exact this
 generalize scO ((lt (dq C)).take k)=U at *;clear hG HE6 hcu H5;refine tk 17 ?_;refine tk 18 ?_;refine tk 19 ?_;refine wU 20 (aG (scL S o.a o.n o.k).toArray) rfl (QM (by rfl) 49 (.tmp 38) rfl R 1 rfl (scL S o.a o.n o.k) _ (fun X h=>A7 h.r) Tryz.underlying49 rfl (kJ _ _ _ _)) hS ?_;simp only[aZ];refine wU 21 (pkV ((dq C).size:Int) aw nw kw) rfl (QM (by rfl) 52 (.tmp 3) rfl Q 0 rfl [I J ((dq C).size:Int),sL aw nw kw] _ (fun X h=>h.q.load) Tryz.underlying52 rfl (ur _ _ _ _)) hS ?_;simp only[aZ];refine tk 23 ?_;refine tk 24 ?_;refine tk 25 ?_;refine tk 26 ?_ (hy:=fun X hX=>by (have y:=hX.r.cell 14 (I J (k:Int)) rfl;go_simp;try rfl));refine al 22 fun K hK=>?_;rw[zc (by rfl)];go_simp;refine (HUN.o _ HWF.o).mono ?_;rintro ox w7 ⟨rfl,hb5⟩;go_wp2_with fail;refine hK.out _ _ (hS.below hb5) (fun hS2=>?_);clear hS hK K hb5;have hS:=hS2;clear hS2;refine tk 27 ?_ (v:=.string ((dq C).extract 0 k));refine al 28 fun K hK=>?_;rw[zc (by rfl)];go_simp;refine (HSC.o _ hS.b).mono ?_;rintro ox w8 ⟨a8,n8,k8,rfl,hi8,hb5⟩;have HI8:=ah hi8;clear hi8;go_wp2_with fail;refine hK.out _ _ (hS.below hb5) (fun hS2=>?_);clear hS hK K hb5;have hS:=hS2;clear hS2;refine al 29 fun K hK=>?_;rw[zc (by rfl)];go_simp;refine (I8 w8 S U o.a o.n o.k a8 n8 k8 (HD.o.below hS.b) HI8.o).mono ?_;rintro ox w9 ⟨⟨b9,rfl,h9⟩,hb5⟩;have H9:Hid (b9=true↔snP C S N (k:Int) ws):=h9.trans HR.o.symm;clear h9;go_wp2_with fail;refine hK.out _ _ (hS.below hb5) (fun hS2=>?_);clear hS hK K hb5;have hS:=hS2;clear hS2;refine tk 30 ?_;refine tk 31 ?_;have hbl:=hS.b;refine QI kr ?_ _;clear hS;go_wp2;go_ret;exact⟨⟨b9,rfl,H9.o⟩,hbl⟩
def JQ (C:Co) (S:Sc) (N cu:Int) (ws:List Nat):Prop:=hJ N cu ws/\(C.p=1->okS S/\S.f≠1)/\(C.p≠1->S=scZ)
def J4 (W:World) (M R:Nat) (C:Co) (S:Sc) (N cu:Int) (ws:List Nat) (o:Os) (hR:blk W R (ocL M S N cu o) 137) (y3:W.cell? ⟨M,3,nn⟩=sQ (I J C.p)) (y9:W.cell? ⟨M,9,nn⟩=sQ (bO C.tx)) (hs:snd C=false) (tab:W.rangeAt 0 0 bV) (hz:0<W.heap.size) (hd:iB W o.a o.n o.k S.l) (hl:S.l.length<=1048576) (hx:bP W o.aw o.nw o.kw ws) (hw:ws.length<=1048576) :
  Calls Tp 96 #[pT (sQ ⟨R,0,nn⟩)] W fun o w'=>cK o (JQ C S N cu ws)/\Bl W w':=by
 have HSN:Hid (Calls Tp 65 #[pT (sQ ⟨M,0,nn⟩)] W fun o w'=>o = rT (bO false)/\w'=W):=by
  have:=ir W M _ _ C.p rfl y3 y9;rw[show ((C.p == 1) && C.tx)=false from hs] at this;exact this
 have HT:Hid (∀ V,Bl W V->V.rangeAt 0 0 bV):=fun V hV j v hv=>(hV.cell (p:=⟨0,0+j,nn⟩) (by exact hz)).trans (tab j v hv);have HM:Hid (M<W.heap.size/\0<W.heap.size):=⟨QD W _ y3,hz⟩
 have HD:=ah hd;have HX:=ah hx;have HW:=ah hw;have HL:=ah hl;have HRR:=ah hR;have Y3:=ah y3;have z0:=hR.cell 0 (pT (sQ ⟨M,0,nn⟩)) rfl;have z14:=hR.cell 14 (I J cu) rfl;obtain⟨X,HXX⟩ : ∃ X:Prop,Hid (JQ C S N cu ws↔X):=⟨_,Iff.rfl⟩
 have key:Calls Tp 96 #[pT (sQ ⟨R,0,nn⟩)] W fun o w'=>cK o X/\Bl W w':=by
  clear tab hz hd hx hw hl hR y3 y9 hs;go_enter Tryz.func96,Tryz.ntmps96;go_wp2_with fail;refine HSN.o.mono ?_;rintro ox wa ⟨rfl,hwa⟩;subst hwa;clear HSN;go_wp2_with (refine qG 52 (DC HRR.o) Tryz.underlying52 (ur _ _ _ _) ?_);refine (I9 _ N 0 o.aw nn o.nw o.kw 0 0 ws [] HX.o (si _) (by have:=HX.o.len;have:=HW.o;omega) (by decide)).mono ?_;rintro ox w1 ⟨⟨b1,rfl,h1⟩,hb1⟩;have H1:Hid (blk w1 R (ocL M S N cu o) 137/\Bl wa w1/\w1.cell? ⟨M,3,nn⟩=sQ (I J C.p)):=⟨HRR.o.below hb1,hb1,(hb1.cell (by exact HM.o.1)).trans Y3.o⟩
  have HB1:=ah h1;clear h1 hb1 z0 z14;have z0:=H1.o.1.cell 0 (pT (sQ ⟨M,0,nn⟩)) rfl;have z14:=H1.o.1.cell 14 (I J cu) rfl;have z1:=H1.o.1.cell 1 (I J S.f) rfl;cases b1
  .have HNO:Hid (¬ X):=fun x=>by have:=HB1.o.2 ⟨(HXX.o.2 x).1.1,(HXX.o.2 x).1.2.1⟩;cases this
   go_wp2;go_ret;exact⟨⟨false,rfl,fun e=>(by cases e),fun e=>Qz e HNO.o⟩,H1.o.2.1⟩
  cases qc:(cu != 0);case true=>
   have HNO:Hid (¬ X):=fun x=>by have:=(HXX.o.2 x).1.2.2;rw[this] at qc;simp at qc
   go_wp2;go_ret;exact⟨⟨false,rfl,fun e=>(by cases e),fun e=>Qz e HNO.o⟩,H1.o.2.1⟩
  have HBR:Hid (hJ N cu ws):=⟨(HB1.o.1 rfl).1,(HB1.o.1 rfl).2,by simpa using qc⟩
  have y3:=H1.o.2.2;by_cases hp:C.p=1
  .rw[hp] at y3;have HP:=ah hp;clear hp;go_wp2_with (refine qG 49 (A7 H1.o.1) Tryz.underlying49 (kJ _ _ _ _) ?_);refine (GB _ (HT.o _ H1.o.2.1) (nL HM.o.2 H1.o.2.1.size) S o.a o.n o.k HD.o.len (by have:=HD.o.len;have:=HL.o;omega)).mono ?_;rintro ox w2 ⟨⟨b2,rfl,h2⟩,hb2⟩;have H2:Hid (blk w2 R (ocL M S N cu o) 137/\Bl wa w2/\(b2=true↔okS S)):=⟨H1.o.1.below hb2,H1.o.2.1.trans (hb2.mono H1.o.2.1.size),h2⟩
   clear h2 hb2 H1 z0 z14 z1 y3;have z1:=H2.o.1.cell 1 (I J S.f) rfl;cases b2
   .have HNO:Hid (¬ X):=fun x=>by have:=H2.o.2.2.2 ((HXX.o.2 x).2.1 HP.o).1;cases this
    go_wp2;go_ret;exact⟨⟨false,rfl,fun e=>(by cases e),fun e=>Qz e HNO.o⟩,H2.o.2.1⟩
   cases qf:(S.f != 1)
   .have HNO:Hid (¬ X):=fun x=>by have:=((HXX.o.2 x).2.1 HP.o).2;simp at qf;exact this qf
    go_wp2;go_ret;exact⟨⟨false,rfl,fun e=>(by cases e),fun e=>Qz e HNO.o⟩,H2.o.2.1⟩
   .have HYE:Hid X:=HXX.o.1 ⟨HBR.o,fun _=>⟨H2.o.2.2.1 rfl,by simpa using qf⟩,fun e=>Qz HP.o e⟩;go_wp2;go_ret;exact⟨⟨true,rfl,fun _=>HYE.o,fun _=>rfl⟩,H2.o.2.1⟩
  .have h1:(C.p == 1)=false:=by simpa using hp
   have HP:=ah hp;clear hp;go_wp2_with (refine qG 49 (A7 H1.o.1) Tryz.underlying49 (kJ _ _ _ _) ?_);refine (I8 _ S scZ o.a o.n o.k nn 0 0 (HD.o.below H1.o.2.1) (xC _)).mono ?_;rintro ox w2 ⟨⟨b2,rfl,h2⟩,hb2⟩;have H2:Hid (Bl wa w2/\(b2=true↔X)):=⟨H1.o.2.1.trans (hb2.mono H1.o.2.1.size),h2.trans ⟨fun e=>HXX.o.1 ⟨HBR.o,fun e1=>Qz e1 HP.o,fun _=>e⟩,fun x=>(HXX.o.2 x).2.2 HP.o⟩⟩
   clear h2 hb2;go_wp2;go_ret;exact⟨⟨b2,rfl,H2.o.2⟩,H2.o.1⟩
 refine key.mono ?_;rintro ox w' ⟨⟨b,rfl,hb⟩,hb'⟩;exact⟨⟨b,rfl,hb.trans HXX.o.symm⟩,hb'⟩
end Go.Proofs.YtnfmjckkibdcaaaGreatDoor
namespace Go.Proofs.YtnfmjckkibdcaaaGreatDoor
open Option renaming none->nn,some->sQ
set_option maxRecDepth 20000
open Go.Shelf Go.RowKit
set_option linter.all false
set_option maxHeartbeats 16000000
open Go.Value renaming int->I,slice->sL,bool->bO,pointer->pT,agg->aG
open Go.IntKind renaming i64->J
open Go.Ending renaming returned->rT
open Go.Proofs.Tryz renaming prog->Tp
def Tryz.laysW41_ren:Go.Shelf.Ren:=⟨fun | 41=>94 | n=>n,fun | 22=>50 | 23=>125 | n=>n,fun | n=>n⟩
def Tryz.laysW41:Go.Proofs.SlLaysE0.n41 Tp Tryz.laysW41_ren:={
 mixed:=kr
 f41:=⟨Tryz.f94.name,by kernel_rfl,Tryz.func94.trans (congrArg sQ kr)⟩
 t4:=Tryz.underlying4
 a4:=Tryz.isAgg4
 z4:=Tryz.sizeOf4
 v4:=Tryz.zeroValue4
 t22:=Tryz.underlying50
 a22:=Tryz.isAgg50
 z22:=Tryz.sizeOf50
 v22:=Tryz.zeroValue50 }
def GH (l:List Nat):(wv l).length=l.length:=by simp[wv]
def J7 (W:World) (a:Option Addr) (n cap:Nat) (l:List Nat) (h:bP W a n cap l) (hn:n<=1048576) (ha:a=nn\/∃ g,a=sQ ⟨g,0,nn⟩) :
  Calls Tp 94 #[sL a n cap] W fun e w'=>∃ a' c',e = rT (sL a' n c')/\an w' W.heap.size (sL a' n c') l/\Bl W w':=by
 rcases ha with rfl|⟨g,rfl⟩
 .have hl:l=[]:=Classical.byContradiction fun e=>by obtain⟨g,off,e1,_⟩:=h.cells e;cases e1
  subst hl;have hn0:n=0:=h.len;subst hn0;refine (AnyE.slices_Clone_nil Tryz.laysW41 0 cap W).mono ?_;rintro e w' ⟨rfl,rfl⟩;exact⟨nn,0,rfl,gh _ _,bW _ _⟩
 .obtain⟨i0,hi,hz0,hz1,hz2⟩:=QX Tryz.info125;refine (AnyE.slices_Clone Tryz.laysW41 i0 _ 1 8 hi hz0 hz1 hz2 rfl om Tryz.sizeOf125 g 0 n cap (wv l) W (by rw[GH,h.len];omega) (by unfold maxLen;omega) om (fun j u hj=>?_) (fun u hu=>?_)).mono ?_
  .have hjl:j<l.length:=by have:=(List.getElem?_eq_some_iff.mp hj).1;rwa [GH] at this
   obtain⟨g',off,e1,hc⟩:=h.cells (by intro e;rw[e] at hjl;cases hjl);cases e1;rw[hc j hjl,<- hj,Ep l j hjl]
  .unfold wv at hu;obtain⟨x,_,rfl⟩:=List.mem_map.1 hu;rfl
  .rintro e w' ⟨v',rfl,ho,hv,hb⟩;have hle:=h.len;rcases ho.2 with⟨e,_⟩|⟨g',cap',cur,hv',_⟩
   .exact Qz e hv
   .subst hv';exact⟨_,cap',rfl,by unfold an;rw[<- hle];exact ho,hb⟩
def Im (W:World) (a:Option Addr) (n cap:Nat) (l:List Nat) (h:iB W a n cap l) (hn:n<=1048576) :
  Calls Tp 161 #[sL a n cap] W fun e w'=>∃ a' c',e = rT (sL a' n c')/\aa w' W.heap.size (sL a' n c') l/\Bl W w':=by
 have hlen:=h.len;cases a with
 | none=>
  have hl:l=[]:=Classical.byContradiction fun e=>by obtain⟨g,off,e1,_⟩:=h.cells e;cases e1
  subst hl;have hn0:n=0:=hlen;subst hn0;refine (Tryz.bytes_Clone_nil 0 cap W).mono ?_;rintro e w' ⟨rfl,rfl⟩;exact⟨nn,0,rfl,gc _ _,bW _ _⟩
 | some ad=>
  have hc:∀ i,i<n->W.cell? (ad.add i)=sQ (I .u8 ((l.map (fun x:Nat=>(x:Int))).getD i 0)):=by
   intro i hi;obtain⟨g,off,e1,hc⟩:=h.cells (by intro e;subst e;rw[hlen] at hi;cases hi);cases e1;have hil:i<l.length:=om;rw[Addr.add_lit];simp[List.getD,hc i hil,qA hil]
  refine (Tryz.bytes_Clone_at ad n cap (l.map (fun x:Nat=>(x:Int))) W (by simp[hlen]) om hc).mono ?_;rintro e w' ⟨v',rfl,ho,hv,hbw⟩;have ho2:=ho.2;rcases ho2 with⟨e,_⟩|⟨g',cap',cur,hv',_⟩
  .exact Qz e hv
  .subst hv';refine⟨_,cap',rfl,?_,hbw⟩;unfold aa bv;rw[<- hlen];simpa[List.map_map,Function.comp_def] using ho
def Jc (W:World) (g o:Nat) (a:Option Addr) (n cap:Nat) (l:List Nat) (y:W.cell? ⟨g,o+4,nn⟩=sQ (sL a n cap)) (hf:W.frozen? ⟨g,o+4,nn⟩=false) (h:iB W a n cap l) (hn:n<=1048576) :
  Calls Tp 95 #[pT (sQ ⟨g,o,nn⟩)] W fun e w'=>∃ a' c' w1,e = rT (.tuple #[])/\w'=w1.setCell ⟨g,o+4,nn⟩ (sL a' n c')/\aa w1 W.heap.size (sL a' n c') l/\Bl W w1:=by
 have HC:Hid (Calls Tp 161 #[sL a n cap] W fun e w'=>∃ a' c',e = rT (sL a' n c')/\aa w' W.heap.size (sL a' n c') l/\Bl W w'):=Im W a n cap l h hn;have hg:g<W.heap.size:=QD W _ y;clear h;go_enter Tryz.func95,Tryz.ntmps95;go_wp2_with fail;refine HC.o.mono ?_;rintro e w1 ⟨a',c',rfl,ho,hb⟩;have y1:=(hb.cell (p:=⟨g,o+4,nn⟩) hg).trans y;have f1:=(hb.frozen (p:=⟨g,o+4,nn⟩) hg).trans hf;have HO:=ah ho;have HB:=ah hb;clear ho hb;go_wp2;first | go_ret | go_end0
 exact⟨a',c',w1,rfl,rfl,HO.o,HB.o⟩
open Go.RowKit
set_option maxHeartbeats 8000000
def mx.hIm {w0:World} {M:Nat} {G:Lg} {f1 f3 nm:Nat} {C:Co} {W:World} (h:mx w0 M G f1 f3 nm C W) (tab:W.rangeAt 0 0 bV) (hz:0<W.heap.size) (hw:wrP C.ho.bx) (hv:∀ hk:onI C.ho.bx<C.ho.bx.length,vB C.ho.bx[onI C.ho.bx].e C.ho.bx[onI C.ho.bx].i C.ho.bx[onI C.ho.bx].r C.ho.bx[onI C.ho.bx].d C.ho.bx[onI C.ho.bx].l.length=true):hIm W G.P (dq C):=by
 have hk:=kC hw;have hv:=hv hk;refine⟨C.ho.bx[onI C.ho.bx].e,C.ho.bx[onI C.ho.bx].i,C.ho.bx[onI C.ho.bx].r,C.ho.bx[onI C.ho.bx].d,C.ho.bx[onI C.ho.bx].l,fun V hV=>?_,fun V ao m c hV hi=>?_⟩
 .obtain⟨hs,D,hc⟩:=h.below hV;exact jZ V G.P G.gb G.n2 G.kb C.ho.bx _ hk (hc.h.p.cell 5 _ rfl) (hc.h.x.is hc.h.bd.nk) hc.h.bd.m2 (fun z hz=>(oU hz hw).1)
 .refine (mn V (fun j v hv=>(hV.cell (p:=⟨0,0+j,nn⟩) (by exact hz)).trans (tab j v hv)) (nL hz hV.size) _ _ _ _ ao m c _ hi).mono ?_;rintro o w' ⟨aw,kw,rfl,q1,q2⟩;have el:=hi.len;subst el;rw[jq C hk,zw _ _ _ _ _ hv];refine⟨aw,_,kw,?_,q1,rfl,q2⟩;congr 2;rw[<- zw _ _ _ _ _ hv,ba]
structure opO (w:World) (C:Co) (S:Sc) (N cu:Int) (ws:List Nat) (R:Nat) (w0:World) (M:Nat) (G:Lg) (nm B:Nat) (o:Os) (W:World):Prop where
 m:mx w0 M G 0 0 nm C W
 b0:Below w.heap.size w w0
 r:blk W R (ocL M S N cu o) 137
 n:lhU G R/\M<R/\B=R+1/\w0.heap.size<=R/\w.heap.size<B
 d:aa W B (sL o.a o.n o.k) S.l
 dn:o.n=S.l.length
 x:an W B (sL o.aw o.nw o.kw) ws
 xn:o.nw=ws.length
def IF (w:World) (C:Co) (S:Sc) (N cu:Int) (ws:List Nat) (q:Os) (h:eN w C S ws q) (hs:dz q.s) (ha:q.aw=nn\/∃ g,q.aw=sQ ⟨g,0,nn⟩) (hok:g9 C) (hm:C.ho.le 1048576) (hl:S.l.length<=1048576) (hw:ws.length<=1048576) (tab:w.rangeAt 0 0 bV) (hz:0<w.heap.size) :
  Calls Tp 49 #[aG (opL C S N cu q).toArray] w fun o w'=>∃ R b,o = rT (.tuple #[pT (sQ ⟨R,0,nn⟩),bO b])/\(b=true↔vf C S N cu ws)/\(∃ w0 M G nm B o',opO w C S N cu ws R w0 M G nm B o' w')/\Below w.heap.size w w':=by
 have HN:=ah (opV.new w C S N cu q);obtain⟨v0,hv0⟩ : ∃ v0,v0=w.alloc (.cells (opL C S N cu q).toArray 54):=⟨_,rfl⟩
 rw[<- hv0] at HN;have HV:=ah (Kj v0 C q.s (h.h.below HN.o.b) hm hok);have HO:Hid (∀ X,Below w.heap.size w X->Calls Tp 61 #[aG (coL C q.s).toArray] X fun o w'=>∃ M,o = rT (pT (sQ ⟨M,0,nn⟩))/\opn X C M w'):=fun X hX=>EJ X C q.s (h.h.below hX) hs hok hm;have HH:=ah h;have HA:=ah ha;have HOK:=ah hok;have HL:=ah hl;have HW:=ah hw;have HZ:=ah hz;have HT:Hid (∀ V,Below w.heap.size w V->V.rangeAt 0 0 bV):=fun V hV j v hv=>(hV.cell (p:=⟨0,0+j,nn⟩) (by exact hz)).trans (tab j v hv);clear h hs ha hok hm hl hw tab hz;go_enter Tryz.func49,Tryz.ntmps49;go_upto_region 1 with fail
 change Code.wp _ _ _ _ (w.alloc (.cells (opL C S N cu q).toArray 54));rw[<- hv0];clear hv0;go_wp2_with (refine qG 43 (ku HN.o.p) Tryz.underlying43 (cy C q.s) ?_);refine HV.o.mono ?_;rintro ox w1 ⟨rfl,hb1⟩;have H1:=ah (HN.o.below hb1);clear hb1 HN HV;go_upto_region 3 with fail
 refine QK (S:=fun X=>opV w C S N cu q X) kr ?_;have hS:opV w C S N cu q w1.drew:=H1.o.below (bW _ _).drew;clear H1;refine tk 0 ?_;refine tk 3 ?_;refine tk 5 ?_;refine tk 7 ?_;refine wU 1 (aG (coL C q.s).toArray) rfl (QM (by rfl) 43 (.tmp 9) rfl w.heap.size 0 rfl (coL C q.s) _ (fun X h=>ku h.p) Tryz.underlying43 rfl (cy C q.s)) hS ?_;simp only[aZ];refine wU 4 (aG (scL S q.a q.n q.k).toArray) rfl (QM (by rfl) 49 (.tmp 12) rfl w.heap.size 21 rfl (scL S q.a q.n q.k) _ (fun X h=>kt h.p) Tryz.underlying49 rfl (kJ _ _ _ _)) hS ?_;simp only[aZ];refine wU 6 (pkV N q.aw q.nw q.kw) rfl (QM (by rfl) 52 (.tmp 14) rfl w.heap.size 32 rfl [I J N,sL q.aw q.nw q.kw] _ (fun X h=>od h.p) Tryz.underlying52 rfl (ur _ _ _ _)) hS ?_;simp only[aZ];refine tk 8 ?_ (hy:=fun W hW=>by (have y:=hW.p.cell 34 (I J cu) rfl;go_simp;try rfl));refine al 2 fun K hK=>?_;go_simp;refine (HO.o _ hS.b).mono ?_;rintro ox w2 ⟨M,rfl,w0,G,nm,m1,m2,m3,m4,m5⟩;have HM:Hid (mx w0 M G 0 0 nm C w2/\Below w.heap.size w w0/\M<w2.heap.size/\lhU G w2.heap.size/\w0.heap.size<=w2.heap.size):=⟨m1,hS.b.trans (m2.mono hS.b.size),m3,(by obtain⟨_,_,hc⟩:=m1;exact⟨hc.h.lts,hc.h.b.size⟩)⟩
 go_wp2_with fail;refine hK.out _ _ (hS.below m5) (fun hS2=>?_);clear hS hK K m1 m2 m3 m4 m5;have hS:=hS2;clear hS2;refine tk 9 ?_ (v:=aG (ocL M S N cu q).toArray) (hy:=fun W hW=>by kernel_rfl);refine al 10 fun K hK=>?_;go_simp;have hbA:Below w2.heap.size w2 (w2.alloc (.cells (ocL M S N cu q).toArray 137)):=qw;refine hK.out _ _ (hS.below hbA) (fun hS2=>?_);have H3:Hid (opV w C S N cu q (w2.alloc (.cells (ocL M S N cu q).toArray 137))/\Below w2.heap.size w2 (w2.alloc (.cells (ocL M S N cu q).toArray 137))/\blk (w2.alloc (.cells (ocL M S N cu q).toArray 137)) w2.heap.size (ocL M S N cu q) 137):=⟨hS2,hbA,blk.new w2 _ 137⟩
 have HL2:Hid (w.heap.size<w2.heap.size):=hS.p.lt;clear hS hK K hbA;have hS:=hS2;clear hS2;refine tk 11 ?_;refine QI kr ?_ _;clear hS;generalize w2.alloc (.cells (ocL M S N cu q).toArray 137)=w3 at *;obtain⟨R,eR⟩ : ∃ R,w2.heap.size=R:=⟨_,rfl⟩
 rw[eR] at H3 HL2 HM;rw[eR];have HER:=ah eR;clear eR;have y33:=H3.o.1.p.cell 33 (sL q.aw q.nw q.kw) rfl;go_wp2_with fail;refine (J7 w3 q.aw q.nw q.kw ws (HH.o.w.below H3.o.1.b) (by have:=HH.o.w.len;have:=HW.o;omega) HA.o).mono ?_;rintro ox w4 ⟨aw,kw,rfl,ho4,hb4⟩;have H4:Hid (opV w C S N cu q w4/\Below R w2 w4/\blk w4 R (ocL M S N cu q) 137/\an w4 (R+1) (sL aw q.nw kw) ws):=⟨H3.o.1.below hb4,H3.o.2.1.trans (hb4.mono (qB H3.o.2.2.lt)),H3.o.2.2.below hb4,ho4.lower H3.o.2.2.lt⟩
 clear ho4 hb4 H3 y33;have y13:=H4.o.2.2.1.cell 13 (sL q.aw q.nw q.kw) rfl;have f13:=H4.o.2.2.1.free 13;go_upto_region 5 with fail
 obtain⟨o5,e5⟩ : ∃ o5:Os,o5=⟨q.s,q.a,q.n,q.k,aw,q.nw,kw⟩:=⟨_,rfl⟩
 have H5:Hid (opV w C S N cu q (w4.setCell ⟨R,13,nn⟩ (sL aw q.nw kw))/\Below R w2 (w4.setCell ⟨R,13,nn⟩ (sL aw q.nw kw))/\blk (w4.setCell ⟨R,13,nn⟩ (sL aw q.nw kw)) R (ocL M S N cu o5) 137/\an (w4.setCell ⟨R,13,nn⟩ (sL aw q.nw kw)) (R+1) (sL o5.aw o5.nw o5.kw) ws/\o5.a=q.a/\o5.n=q.n/\o5.k=q.k/\o5.nw=q.nw):=by
  have hV:∀ x,x≠R->(w4.setCell ⟨R,13,nn⟩ (sL aw q.nw kw)).heap[x]?=w4.heap[x]?:=fun x hx=>QB _ _ _ _ hx;refine⟨⟨H4.o.1.p.kept (hV _ (by have:=HL2.o;omega)),H4.o.1.b.setCell (by have:=HL2.o;show _<=R;omega) _⟩,H4.o.2.1.setCell (by show R<=R;omega) _,?_,?_,by rw[e5],by rw[e5],by rw[e5],by rw[e5]⟩
  .rw[e5];exact H4.o.2.2.1.set 13 _
  .rw[e5];exact H4.o.2.2.2.otherBlock fun g hg=>hV g (by have:=(QC H4.o.2.2.2 g hg).1;omega)
 generalize w4.setCell ⟨R,13,nn⟩ (sL aw q.nw kw)=w5 at *;clear e5 y13 f13 H4;go_wp2_with fail;refine (Jc w5 R 7 o5.a o5.n o5.k S.l (H5.o.2.2.1.cell 11 (sL o5.a o5.n o5.k) rfl) (H5.o.2.2.1.free 11) (by rw[H5.o.2.2.2.2.1,H5.o.2.2.2.2.2.1,H5.o.2.2.2.2.2.2.1];exact HH.o.d.below H5.o.1.b) (by rw[H5.o.2.2.2.2.2.1];have:=HH.o.d.len;have:=HL.o;omega)).mono ?_;rintro ox w6 ⟨a6,c6,w7,rfl,rfl,ho6,hb6⟩;obtain⟨o6,e6⟩ : ∃ o6:Os,o6=⟨q.s,a6,o5.n,c6,o5.aw,o5.nw,o5.kw⟩:=⟨_,rfl⟩
 have H6:Hid (opO w C S N cu ws R w0 M G nm (R+1) o6 (w7.setCell ⟨R,7+4,nn⟩ (sL a6 o5.n c6))/\Below w.heap.size w (w7.setCell ⟨R,7+4,nn⟩ (sL a6 o5.n c6))):=by
  have hV:∀ x,x≠R->(w7.setCell ⟨R,7+4,nn⟩ (sL a6 o5.n c6)).heap[x]?=w7.heap[x]?:=fun x hx=>QB _ _ _ _ hx;have hb7:Below R w2 (w7.setCell ⟨R,7+4,nn⟩ (sL a6 o5.n c6)):=(H5.o.2.1.trans (hb6.mono (qB H5.o.2.2.1.lt))).setCell (by show R<=R;omega) _;have hRlt:=H5.o.2.2.1.lt;refine⟨⟨HM.o.1.below (by show Below _ _ _;rw[HER.o];exact hb7),HM.o.2.1,?_,⟨HM.o.2.2.2.1,HM.o.2.2.1,rfl,HM.o.2.2.2.2,by have:=HL2.o;omega⟩,?_,?_,?_,?_⟩,?_⟩
  .rw[e6];exact (H5.o.2.2.1.below hb6).set 11 _
  .rw[e6];exact (ho6.mono hRlt).otherBlock fun g hg=>hV g (by have:=(QC ho6 g hg).1;omega)
  .rw[e6];show o5.n=_;rw[H5.o.2.2.2.2.2.1];exact HH.o.d.len
  .rw[e6];exact (H5.o.2.2.2.1.keep fun x _ hx=>hb6.block x hx).otherBlock fun g hg=>hV g (by have:=(QC H5.o.2.2.2.1 g hg).1;omega)
  .rw[e6];show o5.nw=_;rw[H5.o.2.2.2.2.2.2.2];exact HH.o.w.len
  .exact (H5.o.1.b.trans (hb6.mono H5.o.1.b.size)).setCell (by have:=HL2.o;show _<=R;omega) _
 generalize w7.setCell ⟨R,7+4,nn⟩ (sL a6 o5.n c6)=w8 at *;clear e6 ho6 hb6 H5;have HSM:Hid (∀ x ∈ S.l,x<256):=HH.o.d.small;have HWS:Hid (∀ x ∈ ws,x<18446744073709551616):=HH.o.w.small;have HHO:Hid (Calls Tp 96 #[pT (sQ ⟨R,0,nn⟩)] w8 fun o w'=>cK o (vf C S N cu ws)/\Below w8.heap.size w8 w'):=by
  have h6:=H6.o.1;have tab:=HT.o w8 H6.o.2;have hz8:0<w8.heap.size:=nL HZ.o H6.o.2.size;have hd8:iB w8 o6.a o6.n o6.k S.l:=h6.d.is HSM.o;have hx8:bP w8 o6.aw o6.nw o6.kw ws:=h6.x.words h6.xn HWS.o (h6.x.cap h6.xn);by_cases hst:C.p=1/\C.tx=true
  .have hwr:=HOK.o.s.1 hst;obtain⟨ko,kz⟩:=Bx HOK.o hwr;refine (J0 w8 M R G.P C S N cu ws o6 h6.r (h6.m.m.cell 0 _ rfl) (h6.m.m.cell 3 _ rfl) (h6.m.m.cell 9 _ rfl) hst.1 hst.2 tab hz8 hd8 hx8 HW.o (h6.m.hIm tab hz8 hwr fun hk=>kG HOK.o hwr hk) (fun k hk=>Jr HH.o.h HOK.o hwr hk) ko kz).mono ?_;rintro ox w' ⟨⟨b,rfl,hb⟩,h2⟩;exact⟨⟨b,rfl,hb.trans (Je HOK.o hst.1 hst.2).symm⟩,h2⟩
  .have hsf:snd C=false:=by
    unfold snd;cases h1:(C.p == 1)
    .rfl
    .cases h2:C.tx
     .rfl
     .exact Qz ⟨by simpa using h1,h2⟩ hst
   refine (J4 w8 M R C S N cu ws o6 h6.r (h6.m.m.cell 3 _ rfl) (h6.m.m.cell 9 _ rfl) hsf tab hz8 hd8 HL.o hx8 HW.o).mono ?_;rintro ox w' ⟨⟨b,rfl,hb⟩,h2⟩;refine⟨⟨b,rfl,hb.trans ?_⟩,h2⟩;by_cases hp:C.p=1
   .have ht:C.tx=false:=by cases e:C.tx;rfl;exact Qz ⟨hp,e⟩ hst
    rw[Jg HOK.o hp ht];exact⟨fun x=>⟨x.1,x.2.1 hp⟩,fun x=>⟨x.1,fun _=>x.2,fun e=>Qz hp e⟩⟩
   .rw[Jf HOK.o hp];exact⟨fun x=>⟨x.1,x.2.2 hp⟩,fun x=>⟨x.1,fun e=>Qz e hp,fun _=>x.2⟩⟩
 go_wp2_with fail;refine HHO.o.mono ?_;rintro ox w9 ⟨⟨b9,rfl,h9⟩,hb9⟩;have H9:Hid ((b9=true↔vf C S N cu ws)/\opO w C S N cu ws R w0 M G nm (R+1) o6 w9/\Below w.heap.size w w9):=by
  have h6:=H6.o.1;exact⟨h9,⟨h6.m.below hb9,h6.b0,h6.r.below hb9,h6.n,h6.d.otherBlock fun g hg=>hb9.block g (QC h6.d g hg).2,h6.dn,h6.x.keep fun x _ hx=>hb9.block x hx,h6.xn⟩,H6.o.2.trans (hb9.mono H6.o.2.size)⟩
 clear h9 hb9 H6 HHO;go_wp2_with fail;refine QF (v:=.tuple #[pT (sQ ⟨R,0,nn⟩),bO b9]) (by simp[results,Tryz.results49,go_sem]) rfl ?_;exact⟨R,b9,rfl,H9.o.1,⟨w0,M,G,nm,R+1,o6,H9.o.2.1⟩,H9.o.2.2⟩
def Ie (w:World) (C:Co) (S:Sc) (N cu:Int) (ws:List Nat) (q:Os) (h:eN w C S ws q) (hs:dz q.s) (ha:q.aw=nn\/∃ g,q.aw=sQ ⟨g,0,nn⟩) (hm:C.ho.le 1048576) (hl:S.l.length<=1048576) (hw:ws.length<=1048576) (tab:w.rangeAt 0 0 bV) (hz:0<w.heap.size) :
  Calls Tp 49 #[aG (opL C S N cu q).toArray] w fun o w'=>∃ p b,o = rT (.tuple #[.pointer p,bO b])/\(b=true↔vf C S N cu ws)/\(b=true->∃ R w0 M G nm B o',p=sQ ⟨R,0,nn⟩/\opO w C S N cu ws R w0 M G nm B o' w')/\Below w.heap.size w w':=by
 by_cases hok:g9 C
 .refine (IF w C S N cu ws q h hs ha hok hm hl hw tab hz).mono ?_;rintro ox w' ⟨R,b,rfl,h1,⟨w0,M,G,nm,B,o',h2⟩,h3⟩;exact⟨_,b,rfl,h1,fun _=>⟨R,w0,M,G,nm,B,o',rfl,h2⟩,h3⟩
 .have HN:=ah (opV.new w C S N cu q);obtain⟨v0,hv0⟩ : ∃ v0,v0=w.alloc (.cells (opL C S N cu q).toArray 54):=⟨_,rfl⟩
  rw[<- hv0] at HN;have HV:=ah (J9 v0 C q.s (h.h.below HN.o.b) hm hok);have HK:=ah hok;clear h hs ha hok hm hl hw tab hz;go_enter Tryz.func49,Tryz.ntmps49;go_upto_region 1 with fail
  change Code.wp _ _ _ _ (w.alloc (.cells (opL C S N cu q).toArray 54));rw[<- hv0];clear hv0;go_wp2_with (refine qG 43 (ku HN.o.p) Tryz.underlying43 (cy C q.s) ?_);refine HV.o.mono ?_;rintro ox w1 ⟨rfl,hb1⟩;have H1:=ah (HN.o.below hb1);clear hb1 HN HV;go_wp2_with fail;refine QF (v:=.tuple #[.pointer nn,bO false]) (by simp[results,Tryz.results49,go_sem]) rfl ?_;exact⟨nn,false,rfl,⟨fun e=>(by cases e),fun e=>Qz e.c HK.o⟩,fun e=>(by cases e),H1.o.b⟩
open Go renaming World->Wd
def mx.far {w0:Wd} {M:Nat} {G:Lg} {f1 f3 nm:Nat} {C:Co} {W:Wd} (h:mx w0 M G f1 f3 nm C W) {R:Nat} (hU:lhU G R) (hM:M<R) (h0:w0.heap.size<=R) (k:Nat) (l:List Value):mx w0 M G f1 f3 nm C (W.setCells R k l):=by
 obtain⟨_,_,hc⟩:=h;obtain⟨u1,u2,u3,u4,u5,u6⟩:=hU;exact⟨_,_,hc.m.other om _ _,hc.h.other R ⟨om,om,om,om,om,om,h0⟩ (fun q hq=>sO R q hq _ _ _) (sZ _ _ _ _) (sW h0 _ _ hc.h.b),hc.o⟩
structure dvO (w:Wd) (C:Co) (S:Sc) (N cu:Int) (ws:List Nat) (R:Nat) (w0:Wd) (M:Nat) (G:Lg) (nm B:Nat) (o:Os) (V W:Wd):Prop where
 p:opO w C S N cu ws R w0 M G nm B o W
 k:∀ q,q≠M->q≠G.gb->q≠R->q<V.heap.size->W.heap[q]?=V.heap[q]?
 z:V.heap.size<=W.heap.size
section
variable {w : Wd} {C : Co} {S : Sc} {N cu : Int} {ws : List Nat} {R : Nat} {w0 : Wd} {M : Nat} {G : Lg} {nm B : Nat} {o : Os} {V W : Wd}
def opO.below (h:opO w C S N cu ws R w0 M G nm B o W) {W':Wd} (hb:Bl W W'):opO w C S N cu ws R w0 M G nm B o W':=⟨h.m.below hb,h.b0,h.r.below hb,h.n,h.d.otherBlock fun g hg=>hb.block g (QC h.d g hg).2,h.dn,h.x.keep fun x _ hx=>hb.block x hx,h.xn⟩
def opO.b (h:opO w C S N cu ws R w0 M G nm B o W):Bl w W:=by
 obtain⟨_,_,hc⟩:=h.m;exact h.b0.trans (hc.h.b.mono h.b0.size)
def dvO.now (h:opO w C S N cu ws R w0 M G nm B o W):dvO w C S N cu ws R w0 M G nm B o W W:=⟨h,fun _ _ _ _ _=>rfl,nR _⟩
def dvO.below (h:dvO w C S N cu ws R w0 M G nm B o V W) {W':Wd} (hb:Bl W W'):dvO w C S N cu ws R w0 M G nm B o V W':=⟨h.p.below hb,fun q a b c d=>(hb.block q (nL d h.z)).trans (h.k q a b c d),nT h.z hb.size⟩
def dvO.mr {C':Co} {W':Wd} (h:dvO w C S N cu ws R w0 M G nm B o V W) (hm:mr w0 M G 0 0 nm W C' W'):dvO w C' S N cu ws R w0 M G nm B o V W':=by
 obtain⟨⟨u1,u2,u3,u4,u5,u6⟩,n2,n3,n4,n5⟩:=h.p.n;refine⟨⟨hm.x,h.p.b0,h.p.r.kept (hm.k R om om h.p.r.lt),h.p.n,h.p.d.otherBlock fun g hg=>?_,h.p.dn,h.p.x.otherBlock fun g hg=>?_,h.p.xn⟩,fun q a b c d=>(hm.k q a b (nL d h.z)).trans (h.k q a b c d),nT h.z hm.z⟩
 .have:=QC h.p.d g hg;exact hm.k g om om this.2
 .have:=QC h.p.x g hg;exact hm.k g om om this.2
def dvO.put (h:dvO w C S N cu ws R w0 M G nm B o V W) {S':Sc} {N':Int} {ws':List Nat} {o':Os} (k:Nat) (l:List Value) (hr:blk (W.setCells R k l) R (ocL M S' N' cu o') 137) (hd:aa W B (sL o'.a o'.n o'.k) S'.l) (hdn:o'.n=S'.l.length) (hx:an W B (sL o'.aw o'.nw o'.kw) ws') (hxn:o'.nw=ws'.length):dvO w C S' N' cu ws' R w0 M G nm B o' V (W.setCells R k l):=by
 obtain⟨hu,n2,n3,n4,n5⟩:=h.p.n;have hV:∀ q,q≠R->(W.setCells R k l).heap[q]?=W.heap[q]?:=fun q hq=>sO R q hq _ _ _;refine⟨⟨h.p.m.far hu n2 n4 _ _,h.p.b0,hr,h.p.n,hd.otherBlock fun g hg=>hV g ?_,hdn,hx.otherBlock fun g hg=>hV g ?_,hxn⟩,fun q a b c d=>(hV q c).trans (h.k q a b c d),by rw[sZ];exact h.z⟩
 .have:=QC hd g hg;omega
 .have:=QC hx g hg;omega
end
def Hq {w:Wd} {b M:Nat} {S S':Sc} {N cu:Int} {o:Os} {a:Option Addr} {n k:Nat} {T:TypeId} (h:blk w b (ocL M S N cu o) T):blk (w.setCells b 1 (scL S' a n k)) b (ocL M S' N cu ⟨o.s,a,n,k,o.aw,o.nw,o.kw⟩) T:=by
 have e:ocL M S N cu o=[Value.pointer (sQ ⟨M,0,nn⟩)]++scL S o.a o.n o.k++pk3 N o.aw o.nw o.kw cu:=rfl;rw[e] at h;exact h.put [Value.pointer (sQ ⟨M,0,nn⟩)] (scL S o.a o.n o.k) (pk3 N o.aw o.nw o.kw cu) (scL S' a n k) rfl
def Ig {w:Wd} {b M:Nat} {S:Sc} {N N' cu:Int} {o:Os} {a:Option Addr} {n k:Nat} {T:TypeId} (h:blk w b (ocL M S N cu o) T):blk (w.setCells b 12 [I J N',sL a n k]) b (ocL M S N' cu ⟨o.s,o.a,o.n,o.k,a,n,k⟩) T:=by
 have e:ocL M S N cu o=([Value.pointer (sQ ⟨M,0,nn⟩)]++scL S o.a o.n o.k)++[I J N,sL o.aw o.nw o.kw]++[I J cu]:=rfl;rw[e] at h;have:=h.put ([Value.pointer (sQ ⟨M,0,nn⟩)]++scL S o.a o.n o.k) [I J N,sL o.aw o.nw o.kw] [I J cu] [I J N',sL a n k] rfl;exact this
def Ja (W:Wd) (M:Nat) (p:Int) (p2 wk:Bool) (e2:(p == 2)=p2) (y3:W.cell? ⟨M,3,nn⟩=sQ (I J p)) (y6:W.cell? ⟨M,6,nn⟩=sQ (bO wk)) :
  Calls Tp 368 #[pT (sQ ⟨M,0,nn⟩)] W fun o w'=>o = rT (I J (if (p2 && !wk)=true then 0 else 1))/\w'=W:=by
 cases p2 <;> cases wk;all_goals
  go_enter Tryz.func368,Tryz.ntmps368;go_wp2_with fail;go_ret;exact⟨rfl,rfl⟩
end Go.Proofs.YtnfmjckkibdcaaaGreatDoor
