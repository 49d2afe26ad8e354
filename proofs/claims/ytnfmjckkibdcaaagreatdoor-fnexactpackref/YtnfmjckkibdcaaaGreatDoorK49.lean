import Derived.Test.YtnfmjckkibdcaaaGreatDoorK46
import Derived.Test.YtnfmjckkibdcaaaGreatDoorK48
import Derived.StillTailTactics
import Derived.Deep.RegionHeld3
namespace Go.Proofs.YtnfmjckkibdcaaaGreatDoor
open Option renaming none->nn,some->sQ
open Go renaming World->Wd
set_option maxRecDepth 20000
open Go.RowKit
set_option linter.all false
set_option maxHeartbeats 16000000
open Go.Value renaming int->I,slice->sL,bool->bO,pointer->pT,agg->aG
open Go.IntKind renaming i64->J
open Go.Ending renaming returned->rT
open Go.Proofs.Tryz renaming prog->Tp
section
variable {w:Wd} {b M:Nat} {N cu:Int} {T:TypeId}
def ocL (M:Nat) (S:Sc) (N cu:Int) (o:Os):List Value:=[pT (sQ ⟨M,0,nn⟩)]++scL S o.a o.n o.k++pk3 N o.aw o.nw o.kw cu
def osS (o:Os) (s:Sl):Os:=⟨s,o.a,o.n,o.k,o.aw,o.nw,o.kw⟩
def acO (C:Co) (s:Sl) (S:Sc) (N cu:Int) (o:Os):List Value:=Z22++opL C S N cu (osS o s)
def vr (C:Co) (s:Sl) (S:Sc) (N cu:Int) (o:Os):(acO C s S N cu o).length=57:=rfl
def Cn (C:Co) (s:Sl) (S:Sc) (N cu:Int) (o:Os):(acO C s S N cu o).toArray.all (·.oneCell')=true:=QL (by simp[acO,Z22,opL,coL,scL,pk3,Value.oneCell'])
def A7 {S:Sc} {o:Os} (h:blk w b (ocL M S N cu o) T):w.rangeAt b 1 (scL S o.a o.n o.k):=blk.loadAt [pT (sQ ⟨M,0,nn⟩)] (scL S o.a o.n o.k) (pk3 N o.aw o.nw o.kw cu) h
def DC {S:Sc} {o:Os} (h:blk w b (ocL M S N cu o) T):w.rangeAt b 12 [I J N,sL o.aw o.nw o.kw]:=blk.loadAt ([pT (sQ ⟨M,0,nn⟩)]++scL S o.a o.n o.k) [I J N,sL o.aw o.nw o.kw] [I J cu] (by have:=h;unfold ocL pk3 at this;rw[qp _ _ [Value.int .i64 cu]];exact this)
def Ai (w:Wd) (C:Co) (s:Sl) (S:Sc) (N cu:Int) (o:Os):(Instr.build 54 #[(0,aG (coL C s).toArray),(1,aG (scL S o.a o.n o.k).toArray),(2,.agg [I J N,sL o.aw o.nw o.kw].toArray),(3,I J cu)]).run Tp w = .ok (aG (opL C S N cu (osS o s)).toArray) w:=kr
def Ca (w:Wd) (C:Co) (s:Sl) (S:Sc) (N cu:Int) (o:Os):(Instr.build 88 #[(1,aG (opL C S N cu (osS o s)).toArray)]).run Tp w = .ok (aG (acO C s S N cu o).toArray) w:=kr
def Ff (C:Co) (s:Sl) (S:Sc) (N cu:Int) (o:Os):∀ w:Wd,(Instr.field 88 (aG (acO C s S N cu o).toArray) 1).run Tp w = .ok (aG (opL C S N cu (osS o s)).toArray) w:=fun w=>by kernel_rfl
def FK (w:Wd) (a:Addr):(Instr.typeAssert (.iface 90 (pT (sQ a))) 133 84 true).run Tp w = .ok (.tuple #[.pointer nn,bO false]) w:=kr
def FJ (w:Wd) (a:Addr):(Instr.typeAssert (.iface 90 (pT (sQ a))) 133 90 true).run Tp w = .ok (.tuple #[pT (sQ a),bO true]) w:=kr
def pW (w : Wd) (R : Nat) : (method 495 90 (pT (sQ ⟨R, 0, nn⟩)) "loop.example/s01647/impl.core").run Tp w = (do let v <- loadVar 127 ⟨R, 0, nn⟩; pure ((363 : FuncId), v) : Sem (FuncId × Value)).run Tp w := by kernel_rfl
def ta (w : Wd) (M R : Nat) (y0 : w.cell? ⟨R, 0, nn⟩ = sQ (pT (sQ ⟨M, 0, nn⟩))) : (method 495 90 (pT (sQ ⟨R, 0, nn⟩)) "loop.example/s01647/impl.core").run Tp w = .ok (363, pT (sQ ⟨M, 0, nn⟩)) w := by
 rw[pW];have:(loadVar 127 ⟨R,0,nn⟩).run Tp w = .ok (pT (sQ ⟨M,0,nn⟩)) w:=by go_simp
 rw[Q8,this];rfl
def xz (W:Wd) (M R:Nat) (S:Sc) (N cu:Int) (o0:Os) (C:Co) (Q:Nat->Nat->Sl->Wd->Prop) (hQ:∀ B T s w1 w2,(∀ k,B<=k->k<T->w2.heap[k]?=w1.heap[k]?)->Q B T s w1->Q B T s w2) (hr:blk W R (ocL M S N cu o0) 137) (ht:∀ X,Bl W X->Calls Tp 63 #[pT (sQ ⟨M,0,nn⟩)] X fun o w'=>∃ s',o = rT (aG (coL C s').toArray)/\Q X.heap.size w'.heap.size s' w'/\Bl X w') :
  Calls Tp 27 #[.iface 90 (pT (sQ ⟨R,0,nn⟩))] W fun o w'=>∃ s' B T,o = rT (aG (acO C s' S N cu o0).toArray)/\Q B T s' w'/\W.heap.size<=B/\T<=w'.heap.size/\Bl W w':=by
 have HR:Hid (blk W R (ocL M S N cu o0) 137):=hr;have HT:Hid (∀ X,Bl W X->Calls Tp 63 #[pT (sQ ⟨M,0,nn⟩)] X fun o w'=>∃ s',o = rT (aG (coL C s').toArray)/\Q X.heap.size w'.heap.size s' w'/\Bl X w'):=ht;have HQ:=ah hQ;clear hQ;have HA:Hid (Bl W (W.alloc (.cells Z57.toArray 88))/\blk (W.alloc (.cells Z57.toArray 88)) W.heap.size Z57 88):=⟨(bW _ _).alloc (nR _) _,blk.new W _ 88⟩
 obtain⟨V0,hV0⟩ : ∃ V0,V0=W.alloc (.cells Z57.toArray 88):=⟨_,rfl⟩
 rw[<- hV0] at HA;obtain⟨B0,hB0⟩ : ∃ B0,V0.heap.size=B0:=⟨_,rfl⟩
 have HB0:=ah hB0;have HB1:Hid (W.heap.size<B0):=by rw[<- hB0];exact HA.o.2.lt
 clear hB0;have y0:=(hr.below HA.o.1).cell 0 (pT (sQ ⟨M,0,nn⟩)) rfl;have hm:=ta V0 M R y0;clear hr ht y0;go_enter Tryz.func27,Tryz.ntmps27;go_upto_region 1 with fail
 change Code.wp _ _ _ _ (W.alloc (.cells Z57.toArray 88));rw[<- hV0];clear hV0;go_wp2_with (first | (go_at_call 363;refine (Ab _ _).mono ?_;rintro o w1 ⟨rfl,rfl⟩));refine (HT.o _ HA.o.1).mono ?_;rintro o w1 ⟨s1,rfl,hq1,hb1⟩;rw[HB0.o] at hq1;have HQ1:Hid (Q B0 w1.heap.size s1 w1/\W.heap.size<B0):=⟨hq1,HB1.o⟩
 clear hq1 HB0 HB1;have H1:=(show Hid _ from qH (HA.o.1.trans (hb1.mono HA.o.1.size)) (HA.o.2.below hb1))
 clear hb1 HA HT hm;have H2:Hid (Bl W (w1.alloc (.cells zY.toArray 43))/\blk (w1.alloc (.cells zY.toArray 43)) W.heap.size Z57 88/\blk (w1.alloc (.cells zY.toArray 43)) w1.heap.size Z21 43/\W.heap.size<w1.heap.size):=⟨H1.o.1.alloc H1.o.1.size _,H1.o.2.alloc _,blk.new w1 _ 43,H1.o.2.lt⟩
 clear H1;go_upto_region 2 with (first
  | (refine QE (P:=Tp) rfl 43 _ _ rfl w1.heap.size 0 (coL C s1).toArray rfl rfl (H2.o.2.2.1.there 0 _ (by rw[qS,cL];decide)) (nO C s1) (cO C s1) ?_;generalize hW2:World.setCells _ w1.heap.size 0 _=w2;have HW2:Hid (_=w2):=hW2;clear hW2))
 have H3:Hid (Bl W w2/\blk w2 W.heap.size Z57 88/\blk w2 w1.heap.size (coL C s1) 43/\W.heap.size<w1.heap.size/\blk w2 R (ocL M S N cu o0) 137):=by
  have e:=HW2.o;have hb:Bl W w2:=by rw[<- e];exact sW (by have:=H2.o.2.2.2;omega) 0 _ H2.o.1
  refine⟨hb,?_,?_,H2.o.2.2.2,HR.o.below hb⟩
  .rw[<- e];exact H2.o.2.1.other (by have:=H2.o.2.2.2;omega) _ _
  .rw[<- e];have:=blk.put [] Z21 [] (coL C s1) (w:=w1.alloc (.cells zY.toArray 43)) (b:=w1.heap.size) (T:=43) (by simpa using H2.o.2.2.1) (by rw[cL];rfl);simpa using this
 have HQ2:Hid (Q B0 w1.heap.size s1 w2/\W.heap.size<B0/\w1.heap.size<=w2.heap.size):=by
  have e:=HW2.o;have hb:Bl w1 w2:=by rw[<- e];exact sW (nR _) 0 _ ((bW _ _).alloc (nR _) _)
  exact⟨HQ.o _ _ _ _ _ (fun k _ h2=>hb.block k h2) HQ1.o.1,HQ1.o.2,hb.size⟩
 clear H2 HW2 HR HQ1;have hta:=FK w2 ⟨R,0,nn⟩;have htb:=FJ w2 ⟨R,0,nn⟩;go_wp2_with fail;refine wp_region_still_tail 15 kr kr ?_;change wpStill Tp _ (World.drew w2) (fun a'=>wpList Tp _ _ _ a' (World.drew w2)) _ _;have H4:Hid (Bl W (World.drew w2)/\blk (World.drew w2) W.heap.size Z57 88/\blk (World.drew w2) w1.heap.size (coL C s1) 43/\blk (World.drew w2) R (ocL M S N cu o0) 137):=⟨H3.o.1.drew,H3.o.2.1,H3.o.2.2.1,H3.o.2.2.2.2⟩
 have y14:(World.drew w2).cell? ⟨R,14,nn⟩=sQ (I J cu):=H4.o.2.2.2.cell 14 _ rfl;clear hta htb H3;have HQ3:Hid (Q B0 w1.heap.size s1 (World.drew w2)/\W.heap.size<B0/\w1.heap.size<=(World.drew w2).heap.size):=⟨HQ.o _ _ _ w2 (World.drew w2) (fun k _ _=>rfl) HQ2.o.1,HQ2.o.2⟩
 clear HQ2;generalize World.drew w2=w3 at *;simp only[List.take_succ_cons,List.take_zero,List.drop_succ_cons,List.drop_zero];refine dK (by rfl) 43 _ rfl w1.heap.size 0 rfl (coL C s1) _ H4.o.2.2.1.load Tryz.underlying43 rfl (cy C s1) ?_;simp only[Act.put];still_step
 still_step
 still_step
 refine dK (by rfl) 49 _ rfl R 1 rfl (scL S o0.a o0.n o0.k) _ (A7 H4.o.2.2.2) Tryz.underlying49 rfl (kJ _ _ _ _) ?_;simp only[Act.put];still_step
 still_step
 still_step
 refine dK (by rfl) 52 _ rfl R 12 rfl [I J N,sL o0.aw o0.nw o0.kw] _ (DC H4.o.2.2.2) Tryz.underlying52 rfl (Dh N _ _ _) ?_;simp only[Act.put];still_step
 still_step
 still_step
 still_step
 refine iH (by rfl) 54 _ rfl _ (by simp[go_sem]) _ (Ai w3 C s1 S N cu o0) ?_;simp only[Act.put];refine iH (by rfl) 88 _ rfl _ (by simp[go_sem]) _ (Ca w3 C s1 S N cu o0) ?_;simp only[Act.put];refine wpStill_nil ?_
 go_wp2_with (first
  | (refine QE (P:=Tp) rfl 88 _ _ rfl W.heap.size 0 (acO C s1 S N cu o0).toArray rfl rfl (H4.o.2.1.there 0 _ (by rw[qS,vr];decide)) Ez (Cn C s1 S N cu o0) ?_;generalize hW8:World.setCells _ W.heap.size 0 _=w8;have HW8:Hid (_=w8):=hW8;clear hW8))
 have e8:=HW8.o;have hF:blk w8 W.heap.size (acO C s1 S N cu o0) 88:=by
  rw[<- e8];have:=blk.put [] Z57 [] (acO C s1 S N cu o0) (w:=w3) (b:=W.heap.size) (T:=88) (by simpa using H4.o.2.1) (by rw[vr];rfl);simpa using this
 have hL:=QJ (P:=Tp) w8 W.heap.size 0 88 _ _ hF.load Tryz.underlying88 rfl Ez;refine bC Tryz.results27 hL ?_;refine⟨s1,rfl,B0,w1.heap.size,HQ.o _ _ _ _ _ (fun k h1 _=>?_) HQ3.o.1,by have:=HQ3.o.2.1;omega,?_,?_⟩
 .rw[<- e8];exact sO _ k (by have:=HQ3.o.2.1;omega) _ _ _
 .rw[<- e8,sZ];exact HQ3.o.2.2
 .rw[<- e8];exact sW om 0 _ H4.o.1
end
section
variable {W V V':World} {M R P Q:Nat} {C:Co} {L:List Value}
def Aj (w:World) (M:Nat):(Instr.build 137 #[(0,pT (sQ ⟨M,0,nn⟩))]).run Tp w = .ok (aG (ocL M scZ 0 0 zOs).toArray) w:=kr
def uO (M:Nat) (S:Sc) (N cu:Int) (o:Os):(ocL M S N cu o).length=15:=rfl
structure pcS (W:World) (M R P:Nat) (hd:ByteArray) (C:Co) (Q:Nat) (L:List Value) (V:World):Prop where
 q:blk V Q L 137
 r:blk V R [pT (sQ ⟨M,0,nn⟩),.string hd] 130
 x0:V.cell? ⟨M,0,nn⟩=sQ (pT (sQ ⟨P,0,nn⟩))
 y3:V.cell? ⟨M,3,nn⟩=sQ (I J C.p)
 y9:V.cell? ⟨M,9,nn⟩=sQ (bO C.tx)
 b:Below Q W V
 n:R<Q/\M<Q
def pcS.below {hd:ByteArray} (h:pcS W M R P hd C Q L V) (hb:Below V.heap.size V V'):pcS W M R P hd C Q L V':=⟨h.q.below hb,h.r.below hb,(hb.cell (by exact QD V _ h.x0)).trans h.x0,(hb.cell (by exact QD V _ h.y3)).trans h.y3,(hb.cell (by exact QD V _ h.y9)).trans h.y9,h.b.trans (hb.mono (qB h.q.lt)),h.n⟩
def pcS.up {hd:ByteArray} {L':List Value} (h:pcS W M R P hd C Q L V) (hq:blk V' Q L' 137) (ho:∀ k,k≠Q->V'.heap[k]?=V.heap[k]?) (hb:Below Q V V'):pcS W M R P hd C Q L' V':=⟨hq,h.r.kept (ho _ (by have:=h.n;omega)),(dt (ho _ (by have:=h.n;omega)) _).trans h.x0,(dt (ho _ (by have:=h.n;omega)) _).trans h.y3,(dt (ho _ (by have:=h.n;omega)) _).trans h.y9,h.b.trans hb,h.n⟩
def sM (W:World) (M R P:Nat) (hd:ByteArray) (C:Co) (tab:W.rangeAt 0 0 bV) (hz:0<W.heap.size) (hR:blk W R [pT (sQ ⟨M,0,nn⟩),.string hd] 130) (x0:W.cell? ⟨M,0,nn⟩=sQ (pT (sQ ⟨P,0,nn⟩))) (y3:W.cell? ⟨M,3,nn⟩=sQ (I J C.p)) (y9:W.cell? ⟨M,9,nn⟩=sQ (bO C.tx))
  (hgo:C.p=1->goL (lt hd))
  (him:C.p=1->C.tx=true->∃ e i r d l,(∀ V,Below W.heap.size W V->Calls Tp 67 #[pT (sQ ⟨P,0,nn⟩)] V fun o w'=>∃ ao m c,o = rT (frV e i r d ao m c)/\iB w' ao m c l/\Below V.heap.size V w')/\∀ V ao m c,Below W.heap.size W V->iB V ao m c l->Calls Tp 66 #[frV e i r d ao m c] V fun o w'=>∃ aw nw kw,o = rT (pkV ((dq C).size:Int) aw nw kw)/\an w' V.heap.size (sL aw nw kw) (wl (lt (dq C)))/\nw=(wl (lt (dq C))).length/\Below V.heap.size V w') :
  Calls Tp 28 #[pT (sQ ⟨R,0,nn⟩)] W fun o w'=>∃ Q q,o = rT (pT (sQ ⟨Q,0,nn⟩))/\blk w' Q (ocL M (dA C hd) (gw C) (gA C hd) q) 137/\aa w' (W.heap.size+1) (sL q.a q.n q.k) (dA C hd).l/\q.n=(dA C hd).l.length/\an w' (W.heap.size+1) (sL q.aw q.nw q.kw) (dO C)/\q.nw=(dO C).length/\Below W.heap.size W w':=by
 have HT:Hid (∀ V,Below W.heap.size W V->V.rangeAt 0 0 bV):=fun V hV j v hv=>(hV.cell (p:=⟨0,0+j,nn⟩) (by exact hz)).trans (tab j v hv);have HGO:=ah hgo;have HIM:=ah him;have z0:=hR.cell 0 (pT (sQ ⟨M,0,nn⟩)) rfl;have HM:Hid (M<W.heap.size/\R<W.heap.size/\0<W.heap.size):=⟨QD W _ x0,hR.lt,hz⟩
 have H1:Hid (pcS W M R P hd C W.heap.size (ocL M scZ 0 0 zOs) (W.alloc (.cells (ocL M scZ 0 0 zOs).toArray 137))):=by
  have hb:Below W.heap.size W (W.alloc (.cells (ocL M scZ 0 0 zOs).toArray 137)):=(bW _ _).alloc (nR _) _;exact⟨blk.new W _ 137,hR.below hb,(hb.cell (by exact HM.o.1)).trans x0,(hb.cell (by exact HM.o.1)).trans y3,(hb.cell (by exact HM.o.1)).trans y9,hb,HM.o.2.1,HM.o.1⟩
 clear tab hz hR x0 y3 y9 hgo him;go_enter Tryz.func28,Tryz.ntmps28;go_upto_region 2 with (refine ja rfl 137 _ rfl _ (by simp[go_sem]) _ (Aj _ M) ?_)
 generalize W.alloc (.cells (ocL M scZ 0 0 zOs).toArray 137)=v1 at *;generalize eQ:W.heap.size=Q at *;have HQ:Hid (W.heap.size=Q):=eQ;clear eQ z0;have y0:=H1.o.r.cell 0 (pT (sQ ⟨M,0,nn⟩)) rfl;have y1:=H1.o.r.cell 1 (.string hd) rfl;have y3:=H1.o.y3;have HSN:Hid (∀ V L,pcS W M R P hd C Q L V->Calls Tp 65 #[pT (sQ ⟨M,0,nn⟩)] V fun o w'=>o = rT (bO (snd C))/\w'=V):=fun V L hV=>ir V M _ _ C.p rfl hV.y3 hV.y9;by_cases hp:C.p=1
 .rw[hp] at y3;have HP1:Hid (C.p=1):=hp;obtain⟨S,eS⟩ : ∃ S,scO (lt hd)=S:=⟨_,rfl⟩
  have HSC:Hid (Calls Tp 64 #[.string hd] v1 fun o w'=>∃ a n k,o = rT (aG (scL S a n k).toArray)/\aa w' v1.heap.size (sL a n k) S.l/\n=S.l.length/\Below v1.heap.size v1 w'):=by rw[<- eS];exact nW v1 (HT.o v1 H1.o.b) (by have:=H1.o.q.lt;omega) hd (HGO.o hp)
  have HES:Hid (dA C hd=S):=by show _=_;unfold dA;rw[hp,<- eS];rfl
  clear eS hp;go_wp2_with fail;refine HSC.o.mono ?_;rintro o w2 ⟨a,n,k,rfl,ho2,hn2,hb2⟩;have H2:Hid (pcS W M R P hd C Q (ocL M scZ 0 0 zOs) w2/\aa w2 (Q+1) (sL a n k) S.l/\n=S.l.length):=⟨H1.o.below hb2,ho2.mono (by have:=H1.o.q.lt;omega),hn2⟩
  clear ho2 hn2 hb2 H1 HSC y0 y1 y3;go_upto_region 4 with (refine QE (P:=Tp) rfl 49 _ _ rfl Q 1 (scL S a n k).toArray rfl rfl (H2.o.1.q.there 1 11 (by rw[uO];decide)) dV (iO _ _ _ _) ?_;generalize hW3:World.setCells w2 Q 1 _=w3;have HW3:Hid (_=w3):=hW3;clear hW3)
  obtain⟨q3,e3⟩ : ∃ q:Os,q=⟨zSl,a,n,k,nn,0,0⟩:=⟨_,rfl⟩
  have H3:Hid (pcS W M R P hd C Q (ocL M S 0 0 q3) w3/\aa w3 (Q+1) (sL q3.a q3.n q3.k) S.l/\q3.n=S.l.length/\q3.aw=nn/\q3.nw=0/\q3.kw=0):=by
   have e:=HW3.o;subst e3;rw[<- e];exact⟨H2.o.1.up (H2.o.1.q.put [pT (sQ ⟨M,0,nn⟩)] (scL scZ nn 0 0) (pk3 0 nn 0 0 0) (scL S a n k) rfl) (fun k hk=>sO Q k hk _ _ _) (sW (nR _) _ _ (bW _ _)),H2.o.2.1.setCells om _ _,H2.o.2.2,rfl,rfl,rfl⟩
  clear HW3 H2 e3;have y0:=H3.o.1.r.cell 0 (pT (sQ ⟨M,0,nn⟩)) rfl;go_wp2_with fail;refine (HSN.o w3 _ H3.o.1).mono ?_;rintro o w4 ⟨rfl,rfl⟩;obtain⟨b,hb⟩ : ∃ b,snd C=b:=⟨_,rfl⟩
  have HB:Hid (snd C=b):=hb;rw[hb];clear hb;cases b
  .go_wp2_with fail;go_ret;have hf:=HB.o;refine⟨Q,q3,rfl,?_,?_,?_,?_,?_,by rw[HQ.o];exact H3.o.1.b⟩
   .rw[HES.o,show gw C=0 by unfold gw;rw[hf];rfl,show gA C hd=0 by unfold gA;rw[hf];rfl];exact H3.o.1.q
   .rw[HES.o,HQ.o];exact H3.o.2.1
   .rw[HES.o];exact H3.o.2.2.1
   .rw[show dO C=[] by unfold dO;rw[hf];rfl,H3.o.2.2.2.1,H3.o.2.2.2.2.1,H3.o.2.2.2.2.2];exact gh _ _
   .rw[show dO C=[] by unfold dO;rw[hf];rfl,H3.o.2.2.2.2.1];rfl
  .have ht:C.tx=true:=by have:=HB.o;unfold snd at this;simp at this;exact this.2
   obtain⟨e,i,r,d,l,h67,h66⟩:=HIM.o HP1.o ht;have H67:=ah h67;have H66:=ah h66;clear h67 h66 HIM ht;go_wp2_with fail;have H5:Hid (pcS W M R P hd C Q (ocL M S 0 0 q3) w4.drew/\aa w4.drew (Q+1) (sL q3.a q3.n q3.k) S.l/\q3.n=S.l.length):=⟨H3.o.1.below (bW _ _).drew,G.EV H3.o.2.1 fun _ _ _=>rfl,H3.o.2.2.1⟩
   clear H3 y0;refine QK (S:=fun V=>V.cell? ⟨R,0,nn⟩=sQ (pT (sQ ⟨M,0,nn⟩))/\V.cell? ⟨R,1,nn⟩=sQ (.string hd)/\V.cell? ⟨M,0,nn⟩=sQ (pT (sQ ⟨P,0,nn⟩))) kr ?_;have HSS:Hid (∀ L V,pcS W M R P hd C Q L V->V.cell? ⟨R,0,nn⟩=sQ (pT (sQ ⟨M,0,nn⟩))/\V.cell? ⟨R,1,nn⟩=sQ (.string hd)/\V.cell? ⟨M,0,nn⟩=sQ (pT (sQ ⟨P,0,nn⟩))):=fun L V h=>⟨h.r.cell 0 _ rfl,h.r.cell 1 _ rfl,h.x0⟩
   have hS:=HSS.o _ _ H5.o.1;change wpAnyH Tp _ _ _ _ _ _ _ w4.drew;generalize w4.drew=v5 at *;refine tk 0 ?_;refine tk 1 ?_;refine tk 2 ?_;refine tk 3 ?_;refine tk 4 ?_;refine tk 5 ?_ (hy:=fun X hX=>by (have y:=hX.1;go_simp;try rfl));refine tk 6 ?_;refine tk 7 ?_;refine tk 8 ?_;refine tk 9 ?_ (hy:=fun X hX=>by (have y:=hX.2.2;go_simp;try rfl));refine tk 12 ?_;refine tk 13 ?_;refine tk 14 ?_;refine tk 15 ?_ (hy:=fun X hX=>by (have y:=hX.2.1;go_simp;try rfl));refine tk 16 ?_;refine al 10 fun K hK=>?_;rw[qc (by rfl)];go_simp;go_at_call 67;refine (H67.o v5 H5.o.1.b).mono ?_;rintro o v6 ⟨ao,m,c,rfl,hi6,hb6⟩;have H6:Hid (pcS W M R P hd C Q (ocL M S 0 0 q3) v6/\aa v6 (Q+1) (sL q3.a q3.n q3.k) S.l/\q3.n=S.l.length):=⟨H5.o.1.below hb6,G.EV H5.o.2.1 fun x _ hx=>hb6.block x hx,H5.o.2.2⟩
   have HI6:Hid (iB v6 ao m c l):=hi6;clear hi6 hb6 H5 hS;refine hK.out _ _ (HSS.o _ _ H6.o.1) fun hS=>?_;clear hK K;refine al 11 fun K hK=>?_;rw[qc (by rfl)];go_simp;go_at_call 66;refine (H66.o v6 ao m c H6.o.1.b HI6.o).mono ?_;rintro o v7 ⟨aw,nw,kw,rfl,ho7,hn7,hb7⟩;obtain⟨E,eE⟩ : ∃ E,dq C=E:=⟨_,rfl⟩
   have HEE:Hid (dq C=E):=eE;rw[eE] at ho7 hn7 ⊢;have H7:Hid (pcS W M R P hd C Q (ocL M S 0 0 q3) v7/\aa v7 (Q+1) (sL q3.a q3.n q3.k) S.l/\q3.n=S.l.length/\an v7 (Q+1) (sL aw nw kw) (wl (lt E))/\nw=(wl (lt E)).length):=⟨H6.o.1.below hb7,G.EV H6.o.2.1 fun x _ hx=>hb7.block x hx,H6.o.2.2,ho7.lower (by have:=H6.o.1.q.lt;omega),hn7⟩
   clear ho7 hn7 hb7 H6 HI6 hS eE;refine hK.out _ _ (HSS.o _ _ H7.o.1) fun hS=>?_;clear hK K;refine tk 17 ?_;refine tk 18 ?_;refine al 19 fun K hK=>?_;rw[qc (by rfl)];refine QU (P:=Tp) 52 _ _ rfl Q 12 #[I J (E.size:Int),sL aw nw kw] rfl rfl (H7.o.1.q.there 12 2 (by rw[uO];decide)) (Dh _ _ _ _) (CB _ _ _ _) ?_;obtain⟨r0,er⟩ : ∃ q:Os,q=⟨q3.s,q3.a,q3.n,q3.k,aw,nw,kw⟩:=⟨_,rfl⟩
   have H8:Hid (pcS W M R P hd C Q (ocL M S (E.size:Int) 0 r0) (World.setCells v7 Q 12 [I J (E.size:Int),sL aw nw kw])/\aa (World.setCells v7 Q 12 [I J (E.size:Int),sL aw nw kw]) (Q+1) (sL r0.a r0.n r0.k) S.l/\r0.n=S.l.length/\an (World.setCells v7 Q 12 [I J (E.size:Int),sL aw nw kw]) (Q+1) (sL r0.aw r0.nw r0.kw) (wl (lt E))/\r0.nw=(wl (lt E)).length):=by
    subst er;have hp:blk v7 Q (([pT (sQ ⟨M,0,nn⟩)]++scL S q3.a q3.n q3.k)++[I J 0,sL q3.aw q3.nw q3.kw]++[I J 0]) 137:=by
     have:=H7.o.1.q;unfold ocL pk3 at this;rw[qp _ _ [Value.int .i64 0]];exact this
    refine⟨H7.o.1.up ?_ (fun k hk=>sO Q k hk _ _ _) (sW (nR _) _ _ (bW _ _)),H7.o.2.1.setCells om _ _,H7.o.2.2.1,H7.o.2.2.2.1.setCellsO _ _ _ om,H7.o.2.2.2.2⟩;have:=hp.put _ _ _ [I J (E.size:Int),sL aw nw kw] rfl;rw[qp _ _ [Value.int .i64 0]] at this;exact this
   clear H7 er hS;refine hK.out _ _ (HSS.o _ _ H8.o.1) fun hS=>?_;clear hK K;simp only[Act.put];generalize World.setCells v7 Q 12 _=v8 at *;refine tk 20 ?_;refine tk 21 ?_;refine al 22 fun K hK=>?_;rw[qc (by rfl)];have y14:=H8.o.1.q.cell 14 (I J 0) rfl;have f14:=H8.o.1.q.free 14;go_simp;clear y14 f14;have H9:Hid (pcS W M R P hd C Q (ocL M S (E.size:Int) (hd.size:Int) r0) (v8.setCell ⟨Q,14,nn⟩ (I J (hd.size:Int)))/\aa (v8.setCell ⟨Q,14,nn⟩ (I J (hd.size:Int))) (Q+1) (sL r0.a r0.n r0.k) S.l/\r0.n=S.l.length/\an (v8.setCell ⟨Q,14,nn⟩ (I J (hd.size:Int))) (Q+1) (sL r0.aw r0.nw r0.kw) (wl (lt E))/\r0.nw=(wl (lt E)).length):=by
    have oth:∀ q,q≠Q->(v8.setCell ⟨Q,14,nn⟩ (I J (hd.size:Int))).heap[q]?=v8.heap[q]?:=fun q hq=>QB _ _ _ _ (by exact hq);exact⟨H8.o.1.up (H8.o.1.q.set 14 _) oth ((bW Q v8).setCell (nR _) _),G.EV H8.o.2.1 fun q h1 _=>oth q om,H8.o.2.2.1,H8.o.2.2.2.1.keep fun q h1 _=>oth q om,H8.o.2.2.2.2⟩
   refine hK.out _ (v8.setCell ⟨Q,14,nn⟩ (I J (hd.size:Int))) (HSS.o _ _ H9.o.1) fun hS2=>?_;clear hK K hS hS2 H8;refine QI kr ?_ _;generalize v8.setCell ⟨Q,14,nn⟩ (I J (hd.size:Int))=v9 at *;go_wp2_with fail;go_ret;have hf:=HB.o;refine⟨Q,r0,rfl,?_,?_,?_,?_,?_,by rw[HQ.o];exact H9.o.1.b⟩
   .rw[HES.o,show gw C=(E.size:Int) by unfold gw;rw[hf,qc rfl,HEE.o],show gA C hd=(hd.size:Int) by unfold gA;rw[hf,qc rfl]];exact H9.o.1.q
   .rw[HES.o,HQ.o];exact H9.o.2.1
   .rw[HES.o];exact H9.o.2.2.1
   .rw[show dO C=wl (lt E) by unfold dO;rw[hf,qc rfl,HEE.o],HQ.o];exact H9.o.2.2.2.1
   .rw[show dO C=wl (lt E) by unfold dO;rw[hf,qc rfl,HEE.o]];exact H9.o.2.2.2.2
 .have hp':(C.p == 1)=false:=by simpa using hp
  have hf:snd C=false:=by unfold snd;rw[hp'];rfl
  go_wp2_with fail;refine (HSN.o v1 _ H1.o).mono ?_;rintro o w4 ⟨rfl,rfl⟩;rw[hf];go_wp2_with fail;go_ret;refine⟨Q,zOs,rfl,?_,?_,?_,?_,?_,by rw[HQ.o];exact H1.o.b⟩
  .rw[show dA C hd=scZ by unfold dA;rw[hp'];rfl,show gw C=0 by unfold gw;rw[hf];rfl,show gA C hd=0 by unfold gA;rw[hf];rfl];exact H1.o.q
  .rw[show dA C hd=scZ by unfold dA;rw[hp'];rfl];exact gc _ _
  .rw[show dA C hd=scZ by unfold dA;rw[hp'];rfl];rfl
  .rw[show dO C=[] by unfold dO;rw[hf];rfl];exact gh _ _
  .rw[show dO C=[] by unfold dO;rw[hf];rfl];rfl
end
def mx.told {w0:Wd} {M:Nat} {G:Lg} {f1 f3 nm:Nat} {C:Co} {W:Wd} (h:mx w0 M G f1 f3 nm C W):Calls Tp 63 #[pT (sQ ⟨M,0,nn⟩)] W (xK W C):=by
 obtain⟨_,_,h⟩:=h;exact wt W M G.P C h.m (fun Y hY=>(h.h.below hY).told)
def tlQ (C:Co) (B T:Nat) (s':Sl) (w:Wd):Prop:=∃ s4:Wh,s'=s4.sl/\(∀ W:Wd,(∀ k,B<=k->k<T->W.heap[k]?=w.heap[k]?)->aK W C.ho s4.sl/\whS B T W s4)/\whD s4/\whE s4
def tlQ.keep {C:Co} {B T:Nat} {s':Sl} {w1 w2:Wd} (he:∀ k,B<=k->k<T->w2.heap[k]?=w1.heap[k]?) (h:tlQ C B T s' w1):tlQ C B T s' w2:=by
 obtain⟨s4,e,f,g⟩:=h;exact⟨s4,e,fun W hW=>f W fun k a b=>(hW k a b).trans (he k a b),g⟩
def tlQ.told {C:Co} {X:Wd} {o:Ending} {w':Wd} (h:xK X C o w'):∃ s',o = rT (aG (coL C s').toArray)/\tlQ C X.heap.size w'.heap.size s' w'/\Below X.heap.size X w':=by
 obtain⟨s4,e1,e2,e3,e4,e5,e6⟩:=h;exact⟨s4.sl,e1,⟨s4,rfl,fun W hW=>⟨e2 W hW,e3.same hW⟩,e4,e5⟩,e6⟩
def zw (e:Bool) (i:Nat) (r:Bool) (d:Int) (l:List Nat) (hv:vB e i r d l.length=true):lt (eV e i r d l.length l)=imZ e i r d l.length l:=by
 unfold eV imZ ie;rw[qc hv,qc hv];refine ix _ fun x hx=>?_;rcases List.mem_append.1 hx with h|h
 .rcases M.Em _ (cQ e i r d.toNat l) x h with q | q <;> omega
 .have:=(List.mem_replicate.1 h).2;omega
def mx.packed {w0:Wd} {M:Nat} {G:Lg} {f1 f3 nm:Nat} {C:Co} {W:Wd} (h:mx w0 M G f1 f3 nm C W) (tab:W.rangeAt 0 0 bV) (hz:0<W.heap.size) (R:Nat) (hd:ByteArray) (hR:blk W R [pT (sQ ⟨M,0,nn⟩),.string hd] 130) (hok:g9 C) (hgo:C.p=1->goL (lt hd)) :
  Calls Tp 28 #[pT (sQ ⟨R,0,nn⟩)] W fun o w'=>∃ Q q,o = rT (pT (sQ ⟨Q,0,nn⟩))/\blk w' Q (ocL M (dA C hd) (gw C) (gA C hd) q) 137/\aa w' (W.heap.size+1) (sL q.a q.n q.k) (dA C hd).l/\q.n=(dA C hd).l.length/\an w' (W.heap.size+1) (sL q.aw q.nw q.kw) (dO C)/\q.nw=(dO C).length/\Below W.heap.size W w':=by
 refine sM W M R G.P hd C tab hz hR (h.m.cell 0 _ rfl) (h.m.cell 3 _ rfl) (h.m.cell 9 _ rfl) hgo (fun hp ht=>?_);have hw:=hok.s.1 ⟨hp,ht⟩;have hk:=kC hw;have hv:=kG hok hw hk;refine⟨C.ho.bx[onI C.ho.bx].e,C.ho.bx[onI C.ho.bx].i,C.ho.bx[onI C.ho.bx].r,C.ho.bx[onI C.ho.bx].d,C.ho.bx[onI C.ho.bx].l,fun V hV=>?_,fun V ao m c hV hi=>?_⟩
 .obtain⟨hs,D,hc⟩:=h.below hV;exact jZ V G.P G.gb G.n2 G.kb C.ho.bx _ hk (hc.h.p.cell 5 _ rfl) (hc.h.x.is hc.h.bd.nk) hc.h.bd.m2 (fun z hz=>(oU hz hw).1)
 .refine (mn V (fun j v hv=>(hV.cell (p:=⟨0,0+j,nn⟩) (by exact hz)).trans (tab j v hv)) (nL hz hV.size) _ _ _ _ ao m c _ hi).mono ?_;rintro o w' ⟨aw,kw,rfl,q1,q2⟩;have el:=hi.len;subst el;rw[jq C hk,zw _ _ _ _ _ hv];refine⟨aw,_,kw,?_,q1,rfl,q2⟩;congr 2;rw[<- zw _ _ _ _ _ hv,ba]
structure yA (B:Nat) (T:Co) (S:Sc) (ws:List Nat) (q:Os) (W:Wd):Prop where
 d:aa W B (sL q.a q.n q.k) S.l
 dn:q.n=S.l.length
 w:an W B (sL q.aw q.nw q.kw) ws
 wn:q.nw=ws.length
 h:∃ B1 E1,tlQ T B1 E1 q.s W/\B<=B1/\E1<=W.heap.size/\(∀ g,(Value.slice q.a q.n q.k).ownBlock=sQ g->g<B1)/\∀ g,(Value.slice q.aw q.nw q.kw).ownBlock=sQ g->g<B1
def DT (w:Wd) (tab:w.rangeAt 0 0 bV) (hz0:0<w.heap.size) (C:Co) (s:Sl) (hd:ByteArray) (vf:Nat) (vd vo:Bool) (h:aK w C.ho s) (hs:dz s) (hm:C.ho.le 1048576)
  (hj:∀ W,Calls Tp 129 #[.string hd] W fun o w'=>o = rT (aG #[I J ((bH hd).code:Int),I J (vf:Int),bO vd,bO vo])/\Below W.heap.size W w') :
  Calls Tp 8 #[aG (rfL C s hd).toArray] w fun o w'=>∃ T S N cu ws q,o = rT (aG (opL T S N cu q).toArray)/\g7 C hd (bH hd).code T S N cu ws/\(fH C hd (bH hd).code->yA w.heap.size T S ws q w')/\(¬ fH C hd (bH hd).code->q=zOs)/\Below w.heap.size w w':=by
 have HA:Hid (blk ((w.alloc (.cells (rfL C s hd).toArray 57)).alloc (.cells Z35.toArray 54)) w.heap.size (rfL C s hd) 57/\blk ((w.alloc (.cells (rfL C s hd).toArray 57)).alloc (.cells Z35.toArray 54)) (w.heap.size+1) Z35 54/\Below w.heap.size w ((w.alloc (.cells (rfL C s hd).toArray 57)).alloc (.cells Z35.toArray 54))):=by
  refine⟨(blk.new w _ 57).alloc _,?_,((bW _ _).alloc (nR _) _).alloc pQ _⟩;have:=blk.new (w.alloc (.cells (rfL C s hd).toArray 57)) Z35 54;simpa using this
 obtain⟨v0,hv0⟩ : ∃ v0,v0=(w.alloc (.cells (rfL C s hd).toArray 57)).alloc (.cells Z35.toArray 54):=⟨_,rfl⟩
 rw[<- hv0] at HA;have HT:Hid (∀ V,Below w.heap.size w V->V.rangeAt 0 0 bV):=fun V hV j v hv=>(hV.cell (p:=⟨0,0+j,nn⟩) (by exact hz0)).trans (tab j v hv);have HO:=ah (pO v0 C s hd _ vf vd vo hj (h.below HA.o.2.2) hs hm);have HGO:Hid (fH C hd (bH hd).code->C.p=1->goL (lt hd)):=fun hok=>fH.go h hok;have HZ:Hid (0<w.heap.size):=hz0;clear tab hz0 h hs hm hj;go_enter Tryz.func8,Tryz.ntmps8;go_upto_region 1 with fail
 change Code.wp _ _ _ _ ((w.alloc (.cells (rfL C s hd).toArray 57)).alloc (.cells Z35.toArray 54));rw[<- hv0];clear hv0;go_wp2_with (first | (refine QA (P:=Tp) rfl 57 _ rfl w.heap.size 0 rfl (rfL C s hd) _ HA.o.1.load Tryz.underlying57 rfl vI ?_));refine HO.o.mono ?_;rintro o w1 ⟨p,b,rfl,hb,hr,hb1⟩;have H1:Hid (blk w1 (w.heap.size+1) Z35 54/\Below w.heap.size w w1/\v0.heap.size<=w1.heap.size):=⟨HA.o.2.1.below hb1,HA.o.2.2.trans (hb1.mono HA.o.2.2.size),hb1.size⟩
 have HB:=ah hb;have HR:=ah hr;have HV:Hid (w.heap.size+1<v0.heap.size):=HA.o.2.1.lt;clear hb hr hb1 HA HO;cases b
 .have hno:¬ fH C hd (bH hd).code:=fun x=>by have:=HB.o.2 x;cases this
  have HNO:=ah hno
  clear hno;go_wp2_with (first
   | (refine QE (P:=Tp) rfl 54 _ _ rfl (w.heap.size+1) 0 Z35.toArray rfl rfl (H1.o.1.there 0 _ (by decide)) (fO zCo scZ 0 0 zOs) (ey zCo scZ 0 0 zOs) ?_;generalize hW8:World.setCells _ (w.heap.size+1) 0 _=w8;have HW8:Hid (_=w8):=hW8;clear hW8))
  have e8:=HW8.o;have hF:blk w8 (w.heap.size+1) Z35 54:=by rw[<- e8];exact H1.o.1.put [] Z35 [] Z35 rfl
  refine bC Tryz.results8 (QJ (P:=Tp) w8 (w.heap.size+1) 0 54 _ _ hF.load Tryz.underlying54 rfl (eD zCo scZ 0 0 zOs)) ?_;refine⟨zCo,scZ,0,0,[],zOs,by rw[Cs],qy ⟨HNO.o,rfl,rfl,rfl,rfl,rfl⟩,fun x=>Qz x HNO.o,fun _=>rfl,?_⟩;rw[<- e8];exact sW om 0 _ H1.o.2.1
 obtain⟨R,rfl,w0,M,G0,nm,hx,hb0,hRb,hne⟩:=HR.o rfl;have hok:fH C hd (bH hd).code:=HB.o.1 rfl;have HOK:=ah hok;have HX:=ah (qH hx hRb);clear hx hb0 hRb hne HR HB hok;go_wp2_with fail;refine (HX.o.1.packed (HT.o w1 H1.o.2.1) (nL HZ.o H1.o.2.1.size) R hd HX.o.2 HOK.o.1 (HGO.o HOK.o)).mono ?_;rintro o w2 ⟨Q,q,rfl,k1,k2,k3,k4,k5,hb2⟩;have H2:Hid (blk w2 (w.heap.size+1) Z35 54/\Below w.heap.size w w2):=⟨H1.o.1.below hb2,H1.o.2.1.trans (hb2.mono H1.o.2.1.size)⟩
 have HK:Hid (blk w2 Q (ocL M (dA C hd) (gw C) (gA C hd) q) 137/\aa w2 (w.heap.size+2) (sL q.a q.n q.k) (dA C hd).l/\q.n=(dA C hd).l.length/\an w2 (w.heap.size+2) (sL q.aw q.nw q.kw) (dO C)/\q.nw=(dO C).length/\mx w0 M G0 0 0 nm C w2):=⟨k1,k2.mono (by have:=H1.o.2.2;have:=HV.o;omega),k3,k4.lower (by have:=H1.o.2.2;have:=HV.o;omega),k5,HX.o.1.below hb2⟩
 clear k1 k2 k3 k4 k5 hb2 H1 HX HV;have HAC:=ah (xz w2 M Q (dA C hd) (gw C) (gA C hd) q C (tlQ C) (fun _ _ _ _ _ he h=>h.keep he) HK.o.1 (fun X hX=>((HK.o.2.2.2.2.2.below hX).told).mono fun o w' h=>tlQ.told h));go_wp2_with fail;refine HAC.o.mono ?_;rintro o w3 ⟨s3,B3,T3,rfl,t1,t2,t3,hb3⟩;have hfd:=Ff C s3 (dA C hd) (gw C) (gA C hd) q;have H3:Hid (blk w3 (w.heap.size+1) Z35 54/\Below w.heap.size w w3):=⟨H2.o.1.below hb3,H2.o.2.trans (hb3.mono H2.o.2.size)⟩
 have H4:Hid (aa w3 (w.heap.size+2) (sL q.a q.n q.k) (dA C hd).l/\an w3 (w.heap.size+2) (sL q.aw q.nw q.kw) (dO C)/\tlQ C B3 T3 s3 w3/\w.heap.size+2<=B3/\T3<=w3.heap.size/\(∀ g,(Value.slice q.a q.n q.k).ownBlock=sQ g->g<B3)/\∀ g,(Value.slice q.aw q.nw q.kw).ownBlock=sQ g->g<B3):=⟨G.EV HK.o.2.1 fun x _ hx=>hb3.block x hx,HK.o.2.2.2.1.keep fun x _ hx=>hb3.block x hx,t1,by have:=H2.o.1.lt;omega,t3,fun g hg=>nL (QC HK.o.2.1 g hg).2 t2,fun g hg=>nL (QC HK.o.2.2.2.1 g hg).2 t2⟩
 have HN:Hid (q.n=(dA C hd).l.length/\q.nw=(dO C).length):=⟨HK.o.2.2.1,HK.o.2.2.2.2.1⟩
 clear t1 t2 t3 hb3 H2 HK HAC;go_wp2_with (first
  | (refine QE (P:=Tp) rfl 54 _ _ rfl (w.heap.size+1) 0 (opL C (dA C hd) (gw C) (gA C hd) (osS q s3)).toArray rfl rfl (H3.o.1.there 0 35 (nR _)) (fO _ _ _ _ _) (ey _ _ _ _ _) ?_;generalize hW8:World.setCells w3 (w.heap.size+1) 0 _=w8;have HW8:Hid (_=w8):=hW8;clear hW8))
 have e8:w3.setCells (w.heap.size+1) 0 (opL C (dA C hd) (gw C) (gA C hd) (osS q s3))=w8:=HW8.o;have hF:blk w8 (w.heap.size+1) (opL C (dA C hd) (gw C) (gA C hd) (osS q s3)) 54:=by rw[<- e8];exact H3.o.1.put [] Z35 [] _ rfl
 refine bC Tryz.results8 (QJ (P:=Tp) w8 (w.heap.size+1) 0 54 _ _ hF.load Tryz.underlying54 rfl (eD _ _ _ _ _)) ?_;have oth:∀ k,w.heap.size+2<=k->w8.heap[k]?=w3.heap[k]?:=fun k hk=>by rw[<- e8];exact sO _ k om _ _ _
 have hsz:w8.heap.size=w3.heap.size:=by rw[<- e8,sZ]
 obtain⟨u1,u2,u3,u4,u5,u6,u7⟩:=H4.o;refine⟨C,dA C hd,gw C,gA C hd,dO C,osS q s3,rfl,qr ⟨HOK.o,rfl,rfl,rfl,rfl,rfl⟩,fun _=>⟨(G.EV u1 fun k h1 _=>oth k h1).mono om,HN.o.1,(u2.keep fun k h1 _=>oth k h1).lower om,HN.o.2,B3,T3,u3.keep fun k h1 _=>oth k om,om,by rw[hsz];exact u5,u6,u7⟩,fun x=>Qz HOK.o x,?_⟩;rw[<- e8];exact sW om 0 _ H3.o.2
section
variable {w:World} {b:Nat} {T:Co} {N cu:Int} {Ty:TypeId}
def ku {S:Sc} {q:Os} (h:blk w b (opL T S N cu q) Ty):w.rangeAt b 0 (coL T q.s):=blk.loadAt [] (coL T q.s) (scL S q.a q.n q.k++pk3 N q.aw q.nw q.kw cu) (by have:=h;unfold opL at this;rw[List.nil_append,<- qp];exact this)
def kt {S:Sc} {q:Os} (h:blk w b (opL T S N cu q) Ty):w.rangeAt b 21 (scL S q.a q.n q.k):=blk.loadAt (coL T q.s) (scL S q.a q.n q.k) (pk3 N q.aw q.nw q.kw cu) h
def od {S:Sc} {q:Os} (h:blk w b (opL T S N cu q) Ty):w.rangeAt b 32 [I J N,sL q.aw q.nw q.kw]:=blk.loadAt (coL T q.s++scL S q.a q.n q.k) [I J N,sL q.aw q.nw q.kw] [I J cu] (by have:=h;unfold opL pk3 at this;rw[qp _ _ [Value.int .i64 cu]];exact this)
def ur (N:Int) (a:Option Addr) (n k:Nat):(Tp.info? 52).map (·.size)=some ([I J N,sL a n k]:List Value).length:=kr
def xe (W:World) (T:Co) (S:Sc) (N cu:Int) (ws:List Nat) (o1 o2:Os) (h1:eN W T S ws o1) (h2:eN W T S ws o2) (hm:T.ho.le 1048576) (hs:S.l.length<=1048576) (hw:ws.length<=1048576) :
  Calls Tp 9 #[aG (opL T S N cu o1).toArray,aG (opL T S N cu o2).toArray] W fun o w'=>o = rT (bO true)/\Below W.heap.size W w':=by
 have H0:Hid (blk ((W.alloc (.cells (opL T S N cu o1).toArray 54)).alloc (.cells (opL T S N cu o2).toArray 54)) W.heap.size (opL T S N cu o1) 54/\blk ((W.alloc (.cells (opL T S N cu o1).toArray 54)).alloc (.cells (opL T S N cu o2).toArray 54)) (W.heap.size+1) (opL T S N cu o2) 54/\Below W.heap.size W ((W.alloc (.cells (opL T S N cu o1).toArray 54)).alloc (.cells (opL T S N cu o2).toArray 54))):=by
  refine⟨(blk.new W _ 54).alloc _,?_,((bW _ _).alloc (nR _) _).alloc pQ _⟩;have:=blk.new (W.alloc (.cells (opL T S N cu o1).toArray 54)) (opL T S N cu o2) 54;simpa using this
 obtain⟨v0,hv0⟩ : ∃ v0,v0=(W.alloc (.cells (opL T S N cu o1).toArray 54)).alloc (.cells (opL T S N cu o2).toArray 54):=⟨_,rfl⟩
 rw[<- hv0] at H0;have HO:Hid (∀ X,Below W.heap.size W X->eN X T S ws o1/\eN X T S ws o2):=fun X hX=>⟨h1.below hX,h2.below hX⟩
 have HM:=ah (qH hm (qH hs hw));clear h1 h2 hm hs hw;go_enter Tryz.func9,Tryz.ntmps9;go_upto_region 1 with fail
 change Code.wp _ _ _ _ ((W.alloc (.cells (opL T S N cu o1).toArray 54)).alloc (.cells (opL T S N cu o2).toArray 54));rw[<- hv0]
 clear hv0;go_wp2_with (first
  | (refine QA (P:=Tp) rfl 43 _ rfl W.heap.size 0 rfl _ _ (ku H0.o.1) Tryz.underlying43 rfl (cy _ _) ?_)
  | (refine QA (P:=Tp) rfl 43 _ rfl (W.heap.size+1) 0 rfl _ _ (ku H0.o.2.1) Tryz.underlying43 rfl (cy _ _) ?_))
 refine (Fj _ T o1.s o2.s (HO.o _ H0.o.2.2).1.h (HO.o _ H0.o.2.2).2.h HM.o.1).mono ?_;rintro o w1 ⟨rfl,hb1⟩;have H1:Hid (blk w1 W.heap.size (opL T S N cu o1) 54/\blk w1 (W.heap.size+1) (opL T S N cu o2) 54/\Below W.heap.size W w1):=⟨H0.o.1.below hb1,H0.o.2.1.below hb1,H0.o.2.2.trans (hb1.mono H0.o.2.2.size)⟩
 clear hb1 H0;go_wp2_with (first
  | (refine QA (P:=Tp) rfl 49 _ rfl W.heap.size 21 rfl _ _ (kt H1.o.1) Tryz.underlying49 rfl (kJ _ _ _ _) ?_)
  | (refine QA (P:=Tp) rfl 49 _ rfl (W.heap.size+1) 21 rfl _ _ (kt H1.o.2.1) Tryz.underlying49 rfl (kJ _ _ _ _) ?_))
 refine (rH _ S _ _ _ (HO.o _ H1.o.2.2).1.d _ _ _ (HO.o _ H1.o.2.2).2.d (by have:=(HO.o _ H1.o.2.2).1.d.len;have:=HM.o.2.1;omega)).mono ?_;rintro o w2 ⟨rfl,hb2⟩;have H2:Hid (blk w2 W.heap.size (opL T S N cu o1) 54/\blk w2 (W.heap.size+1) (opL T S N cu o2) 54/\Below W.heap.size W w2):=⟨H1.o.1.below hb2,H1.o.2.1.below hb2,H1.o.2.2.trans (hb2.mono H1.o.2.2.size)⟩
 clear hb2 H1;go_wp2_with (first
  | (refine QA (P:=Tp) rfl 52 _ rfl W.heap.size 32 rfl _ _ (od H2.o.1) Tryz.underlying52 rfl (ur _ _ _ _) ?_)
  | (refine QA (P:=Tp) rfl 52 _ rfl (W.heap.size+1) 32 rfl _ _ (od H2.o.2.1) Tryz.underlying52 rfl (ur _ _ _ _) ?_))
 refine (mz _ N _ _ _ ws (HO.o _ H2.o.2.2).1.w _ _ _ (HO.o _ H2.o.2.2).2.w (by have:=(HO.o _ H2.o.2.2).1.w.len;have:=HM.o.2.2;omega)).mono ?_;rintro o w3 ⟨rfl,hb3⟩;have H3:Hid (blk w3 W.heap.size (opL T S N cu o1) 54/\blk w3 (W.heap.size+1) (opL T S N cu o2) 54/\Below W.heap.size W w3):=⟨H2.o.1.below hb3,H2.o.2.1.below hb3,H2.o.2.2.trans (hb3.mono H2.o.2.2.size)⟩
 clear hb3 H2;have z1:=H3.o.1.cell 34 (I J cu) rfl;have z2:=H3.o.2.1.cell 34 (I J cu) rfl;go_wp2_with fail;go_ret;exact⟨rfl,H3.o.2.2⟩
end
section
variable {w:World} {B n k:Nat}
def aa.rw {g:Nat} {l:List Nat} (h:aa w B (sL (some ⟨g,0,none⟩) n k) l) (hn:n=l.length):B<=g/\g<w.heap.size/\n<=k/\∃ f,ca w g n f:=by
 obtain⟨h0,h1|⟨g',cap,cur,e,hb,hh,hc,hm,hs,ht⟩⟩:=h
 .cases h1.1
 .cases e;have hg:w.heap[g]?=some (.cells cur 5):=hh;refine⟨hb,aJ hg,om,fun t=>l.getD t 0,fun t ht'=>?_,fun t _=>?_⟩
  .have hlen:(bv l).length=l.length:=by simpa using h0
   have e1:cur.toList[t]?=(bv l)[t]?:=by
    rw[<- ht,List.getElem?_take,qc om]
   rw[nt l t om] at e1;have e2:cur[t]?=some (I .u8 (l[t]:Int)):=by rw[<- qT];exact e1
   simp[World.cell?,hg,e2,ql,qA (show t<l.length by omega)]
  .simp[World.frozen?,hg]
def Dp {S:Sc} {a:Option Addr} (h:aa w B (sL a n k) S.l) (hB:B<=w.heap.size) (hn:n=S.l.length) (hl:S.l.length<=1048576) (c:Nat) (hc:c<=10000000000000000) :
  Calls Tp 33 #[aG (scL S a n k).toArray,I J (c:Int)] w fun o w'=>o = rT (I J ((c+n:Nat):Int))/\Below B w w'/\(∀ b,b<w.heap.size->(∀ g,(Value.slice a n k).ownBlock=some g->g≠b)->w'.heap[b]?=w.heap[b]?)/\∀ W2,(∀ g,(Value.slice a n k).ownBlock=some g->W2.heap[g]?=w'.heap[g]?)->w'.heap.size<=W2.heap.size->Calls Tp 36 #[aG (scL S a n k).toArray,I J (c:Int)] W2 fun o w2=>o = rT (I J ((c+n:Nat):Int))/\Below W2.heap.size W2 w2:=by
 rcases G.mU h with⟨rfl,rfl,rfl,_⟩|⟨g,rfl⟩
 .refine (oq w S c).mono ?_;rintro o w' ⟨rfl,hb⟩;exact⟨rfl,hb.mono hB,fun b h1 _=>hb.block b h1,fun W2 _ _=>oE W2 S c⟩
 .obtain⟨h1,h2,h3,f,hf⟩:=h.rw hn;refine (oo w S g n k c f hf h2 h3 om hc).mono ?_;rintro o w' ⟨rfl,hm⟩;refine⟨rfl,hm.bel.mono h1,fun b q1 q2=>hm.oth b (fun e=>q2 g rfl e.symm) q1,fun W2 hW2 hz=>?_⟩;have e:=hW2 g rfl;have hs:=hm.bel.size;refine oD W2 S g n k c ⟨fun t ht=>(dt e t).trans (hm.row.cell t ht),fun t ht=>?_⟩ om h3 om hc;have:=hm.row.free t ht;unfold World.frozen? at this ⊢;rw[e];exact this
def MKO (B:Nat) (T:Co) (S:Sc) (N cu:Int) (q:Os) (w:World):Prop:=∀ W,(∀ x,B<=x->x<w.heap.size->W.heap[x]?=w.heap[x]?)->w.heap.size<=W.heap.size->Calls Tp 12 #[aG (opL T S N cu q).toArray,I J 1] W fun o w1=>∃ k:Nat,o = rT (I J (k:Int))/\Below B W w1/\(∀ x,w.heap.size<=x->x<W.heap.size->w1.heap[x]?=W.heap[x]?)/\∀ W2,Below w1.heap.size w1 W2->Calls Tp 13 #[aG (opL T S N cu q).toArray,I J 1] W2 fun o w2=>o = rT (I J (k:Int))/\Below W2.heap.size W2 w2
def DV (W:World) (T:Co) (S:Sc) (N cu:Int) (q:Os) (k1 k2 k3:Nat)
  (h1:∀ X,Below W.heap.size W X->Calls Tp 35 #[aG (coL T q.s).toArray,I J 1] X fun o w'=>o = rT (I J (k1:Int))/\Below X.heap.size X w')
  (h2:∀ X,Below W.heap.size W X->Calls Tp 36 #[aG (scL S q.a q.n q.k).toArray,I J (k1:Int)] X fun o w'=>o = rT (I J (k2:Int))/\Below X.heap.size X w')
  (h3:∀ X,Below W.heap.size W X->Calls Tp 37 #[pkV N q.aw q.nw q.kw,I J (k2:Int)] X fun o w'=>o = rT (I J (k3:Int))/\Below X.heap.size X w') :
  Calls Tp 13 #[aG (opL T S N cu q).toArray,I J 1] W fun o w'=>o = rT (I J (k3:Int))/\Below W.heap.size W w':=by
 have H0:Hid (blk (W.alloc (.cells (opL T S N cu q).toArray 54)) W.heap.size (opL T S N cu q) 54/\Below W.heap.size W (W.alloc (.cells (opL T S N cu q).toArray 54))):=⟨blk.new W _ 54,(bW _ _).alloc (nR _) _⟩
 have HA:=ah h1;have HB:=ah h2;have HC:=ah h3;have n1:¬ (k1:Int)<0:=om;have n2:¬ (k2:Int)<0:=om;have n3:¬ (k3:Int)<0:=om;clear h1 h2 h3;go_enter Tryz.func13,Tryz.ntmps13;go_wp2_with (first | (refine QA (P:=Tp) rfl 43 _ rfl W.heap.size 0 rfl _ _ (ku H0.o.1) Tryz.underlying43 rfl (cy _ _) ?_));refine (HA.o _ H0.o.2).mono ?_;rintro o w1 ⟨rfl,hb1⟩;have H1:Hid (blk w1 W.heap.size (opL T S N cu q) 54/\Below W.heap.size W w1):=⟨H0.o.1.below hb1,H0.o.2.trans (hb1.mono H0.o.2.size)⟩
 clear hb1 H0;go_wp2_with (first | (refine QA (P:=Tp) rfl 49 _ rfl W.heap.size 21 rfl _ _ (kt H1.o.1) Tryz.underlying49 rfl (kJ _ _ _ _) ?_));refine (HB.o _ H1.o.2).mono ?_;rintro o w2 ⟨rfl,hb2⟩;have H2:Hid (blk w2 W.heap.size (opL T S N cu q) 54/\Below W.heap.size W w2):=⟨H1.o.1.below hb2,H1.o.2.trans (hb2.mono H1.o.2.size)⟩
 clear hb2 H1;go_wp2_with (first | (refine QA (P:=Tp) rfl 52 _ rfl W.heap.size 32 rfl _ _ (od H2.o.1) Tryz.underlying52 rfl (ur _ _ _ _) ?_));refine (HC.o _ H2.o.2).mono ?_;rintro o w3 ⟨rfl,hb3⟩;have H3:Hid (Below W.heap.size W w3):=H2.o.2.trans (hb3.mono H2.o.2.size);clear hb3 H2;go_wp2_with fail;go_ret;exact⟨rfl,H3.o⟩
end
section
variable {w:World} {B:Nat} {T:Co} {ws l:List Nat} {N cu:Int}
def vX {B':Nat} {v u:Value} {m:List Nat} (h:aa w B v l) (h':an w B' u m):∀ g,v.ownBlock=some g->∀ g',u.ownBlock=some g'->g≠g':=by
 intro g hg g' hg' e;obtain⟨c,fz,e1⟩:=h.kind g hg;obtain⟨c',fz',e2⟩:=h'.kind g' hg';rw[e,e2] at e1;injection e1 with e1
 injection e1 with _ e1 _
 exact Qz e1 (by decide)
def yz {a:Option Addr} {n k:Nat} (h:an w B (sL a n k) l):∀ x,a=some x->(Value.slice a n k).ownBlock=some x.block:=by
 intro x hx;obtain⟨_,h1|⟨g,cap,cur,e,_⟩⟩:=h
 .cases h1.1;cases hx
 .cases e;cases hx;rfl
def yS {B1:Nat} {S:Sc} {q:Os} (hd:aa w B (sL q.a q.n q.k) S.l) (hdn:q.n=S.l.length) (hw:an w B (sL q.aw q.nw q.kw) ws) (hwn:q.nw=ws.length) (hMK:MKC B1 T q.s w) (hb1:B<=B1) (hBw:B1<=w.heap.size) (d1:∀ g,(Value.slice q.a q.n q.k).ownBlock=some g->g<B1) (d2:∀ g,(Value.slice q.aw q.nw q.kw).ownBlock=some g->g<B1) (hS:S.l.length<=1048576) (hws:ws.length<=1048576):MKO B T S N cu q w:=by
 intro W hW hz;have hdB:∀ g,(Value.slice q.a q.n q.k).ownBlock=some g->B<=g/\g<B1:=fun g hg=>⟨(QC hd g hg).1,d1 g hg⟩
 have hwB:∀ g,(Value.slice q.aw q.nw q.kw).ownBlock=some g->B<=g/\g<B1:=fun g hg=>⟨(QC hw g hg).1,d2 g hg⟩
 have hap:=vX hd hw;have H0:Hid (blk (W.alloc (.cells (opL T S N cu q).toArray 54)) W.heap.size (opL T S N cu q) 54/\Below W.heap.size W (W.alloc (.cells (opL T S N cu q).toArray 54))):=⟨blk.new W _ 54,(bW _ _).alloc (nR _) _⟩
 obtain⟨v0,hv0⟩ : ∃ v0,v0=W.alloc (.cells (opL T S N cu q).toArray 54):=⟨_,rfl⟩
 rw[<- hv0] at H0;have hv:∀ x,B<=x->x<w.heap.size->v0.heap[x]?=w.heap[x]?:=fun x a b=>(H0.o.2.block x om).trans (hW x a b);have HM:Hid (Calls Tp 32 #[aG (coL T q.s).toArray,I J 1] v0 fun o w1=>∃ k1:Nat,o = rT (I J (k1:Int))/\k1<=100000000000000/\blk w1 W.heap.size (opL T S N cu q) 54/\Below B W w1/\w.heap.size<w1.heap.size/\(∀ x,w.heap.size<=x->x<W.heap.size->w1.heap[x]?=W.heap[x]?)/\aa w1 B (sL q.a q.n q.k) S.l/\an w1 B (sL q.aw q.nw q.kw) ws/\∀ W2,(∀ x,B1<=x->x<w.heap.size->W2.heap[x]?=w1.heap[x]?)->w.heap.size<=W2.heap.size->Calls Tp 35 #[aG (coL T q.s).toArray,I J 1] W2 fun o w2=>o = rT (I J (k1:Int))/\Below W2.heap.size W2 w2):=by
  refine (hMK v0 (fun x a b=>hv x om b) (by have:=H0.o.2.size;omega)).mono ?_;rintro o w1 ⟨k1,rfl,hk,h1,h2,h3⟩;have hlt:=H0.o.1.lt;have hsz:=h1.size;refine⟨k1,rfl,hk,H0.o.1.kept (h2 _ hz hlt),(H0.o.2.mono om).trans (h1.mono hb1),om,fun x a b=>(h2 x a om).trans (H0.o.2.block x b),?_,?_,h3⟩
  .exact hd.otherBlock fun g hg=>(h1.block g (hdB g hg).2).trans (hv g (hdB g hg).1 (by have:=hdB g hg;omega))
  .exact hw.otherBlock fun g hg=>(h1.block g (hwB g hg).2).trans (hv g (hwB g hg).1 (by have:=hwB g hg;omega))
 have HD:=ah (qH hdB (qH hwB hap));have HN:=ah (qH hdn (qH hwn (qH hS hws)));have HZ:=ah (qH hz (qH hBw hb1));clear hd hdn hw hwn hW hz hBw hMK hdB hwB hap hv hb1 d1 d2 hS hws;go_enter Tryz.func12,Tryz.ntmps12;go_upto_region 1 with fail
 change Code.wp _ _ _ _ (W.alloc (.cells (opL T S N cu q).toArray 54));rw[<- hv0];clear hv0;go_wp2_with (first | (refine QA (P:=Tp) rfl 43 _ rfl W.heap.size 0 rfl _ _ (ku H0.o.1) Tryz.underlying43 rfl (cy _ _) ?_));refine HM.o.mono ?_;rintro o w1 ⟨k1,rfl,hk1,b1,bl1,z1,o1,od1,ow1,c1⟩;have H1:Hid (blk w1 W.heap.size (opL T S N cu q) 54/\Below B W w1/\w.heap.size<w1.heap.size/\(∀ x,w.heap.size<=x->x<W.heap.size->w1.heap[x]?=W.heap[x]?)/\aa w1 B (sL q.a q.n q.k) S.l/\an w1 B (sL q.aw q.nw q.kw) ws):=⟨b1,bl1,z1,o1,od1,ow1⟩
 have HC1:=ah c1;have HK1:=ah hk1;clear b1 bl1 z1 o1 od1 ow1 c1 hk1 HM H0;go_wp2_with (first | (refine QA (P:=Tp) rfl 49 _ rfl W.heap.size 21 rfl _ _ (kt H1.o.1) Tryz.underlying49 rfl (kJ _ _ _ _) ?_));refine (Dp H1.o.2.2.2.2.1 (by have:=HZ.o;have:=H1.o.2.2.1;omega) HN.o.1 HN.o.2.2.1 k1 (by have:=HK1.o;omega)).mono ?_;rintro o w2 ⟨rfl,bl2,o2,c2⟩;have hap:=HD.o.2.2;have H2:Hid (blk w2 W.heap.size (opL T S N cu q) 54/\Below B W w2/\w1.heap.size<=w2.heap.size/\(∀ x,w.heap.size<=x->x<W.heap.size->w2.heap[x]?=W.heap[x]?)/\an w2 B (sL q.aw q.nw q.kw) ws/\∀ x,B1<=x->x<w.heap.size->w2.heap[x]?=w1.heap[x]?):=by
  have hz:=HZ.o;have hd:=HD.o.1;have l1:=H1.o.1.lt;have n1:∀ x,B1<=x->x<w1.heap.size->w2.heap[x]?=w1.heap[x]?:=fun x a b=>o2 x b (fun g hg e=>by have:=hd g hg;omega);refine⟨H1.o.1.kept (n1 _ om l1),H1.o.2.1.trans bl2,bl2.size,fun x a b=>(n1 x om om).trans (H1.o.2.2.2.1 x a b),H1.o.2.2.2.2.2.otherBlock fun g hg=>o2 g (QC H1.o.2.2.2.2.2 g hg).2 (fun g' hg'=>hap g' hg' g hg),fun x a b=>n1 x a (by have:=H1.o.2.2.1;omega)⟩
 have HC2:=ah c2;have HL1:=ah H1.o.2.2.1;have HDL:Hid (∀ g,(Value.slice q.a q.n q.k).ownBlock=some g->g<w1.heap.size):=fun g hg=>(QC H1.o.2.2.2.2.1 g hg).2;clear bl2 o2 c2 H1 hap;go_wp2_with (first | (refine QA (P:=Tp) rfl 52 _ rfl W.heap.size 32 rfl _ _ (od H2.o.1) Tryz.underlying52 rfl (ur _ _ _ _) ?_));refine (kV w2 B N q.aw q.nw q.kw (k1+q.n) ws H2.o.2.2.2.2.1 HN.o.2.1 (by have:=HK1.o;have:=HN.o;omega) (by have:=HZ.o;have:=HL1.o;have:=H2.o.2.2.1;omega)).mono ?_;rintro o w3 ⟨rfl,ow3,bl3,o3⟩;have H3:Hid (Below B W w3/\(∀ x,w.heap.size<=x->x<W.heap.size->w3.heap[x]?=W.heap[x]?)/\∀ W2,Below w3.heap.size w3 W2->Calls Tp 13 #[aG (opL T S N cu q).toArray,I J 1] W2 fun o w2=>o = rT (I J ((k1+q.n+q.nw:Nat):Int))/\Below W2.heap.size W2 w2):=by
  have hz:=HZ.o;have hw:=HD.o.2.1;have hap:=HD.o.2.2;have l1:=HL1.o;have l2:=H2.o.2.2.1;have l3:=bl3.size;have hh:=yz H2.o.2.2.2.2.1;have n2:∀ x,B1<=x->x<w2.heap.size->w3.heap[x]?=w2.heap[x]?:=fun x a b=>o3 x b (fun y hy e=>by have:=hw _ (hh y hy);omega);have lW:=H2.o.1.lt;refine⟨H2.o.2.1.trans bl3,fun x a b=>(n2 x om om).trans (H2.o.2.2.2.1 x a b),fun W2 hW2=>?_⟩;have l4:=hW2.size;refine DV W2 T S N cu q k1 (k1+q.n) (k1+q.n+q.nw) (fun X hX=>?_) (fun X hX=>?_) (fun X hX=>?_)
  .have hX':=hW2.trans (hX.mono hW2.size);have:=hX'.size;exact HC1.o X (fun x a b=>((hX'.block x om).trans (n2 x a om)).trans (H2.o.2.2.2.2.2 x a b)) om
  .have hX':=hW2.trans (hX.mono hW2.size);have:=hX'.size;exact HC2.o X (fun g hg=>(hX'.block g (by have:=HDL.o g hg;omega)).trans (o3 g (by have:=HDL.o g hg;omega) (fun y hy e=>hap g hg _ (hh y hy) e.symm))) om
  .have hX':=hW2.trans (hX.mono hW2.size);exact lz X B N q.aw q.nw q.kw (k1+q.n) ws (ow3.below hX') HN.o.2.1 (by have:=HK1.o;have:=HN.o;omega)
 clear ow3 bl3 o3 H2 HC1 HC2;go_wp2_with fail;go_ret;exact⟨_,rfl,H3.o⟩
def yA.mko {S:Sc} {q:Os} (h:yA B T S ws q w) (hS:S.l.length<=1048576) (hws:ws.length<=1048576):MKO B T S N cu q w:=by
 obtain⟨B1,E1,⟨s4,es,f,g1,g2⟩,hb1,he1,d1,d2⟩:=h.h;have hwh:whS B1 w.heap.size w s4:=(f w fun _ _ _=>rfl).2.mono (nR _) he1;have hBw:B1<=w.heap.size:=qB (Qj hwh.fb.1 hwh.fb.2);exact yS h.d h.dn h.w h.wn (by rw[es];exact MKQ.core (hwh.mkq g1 g2) hBw) hb1 hBw d1 d2 hS hws
def Ax (B:Nat) (w:World) (hB:B<=w.heap.size):MKO B zCo scZ 0 0 zOs w:=yS (ws:=[]) (gc _ _) rfl (gh _ _) rfl (MKQ.core (T:=zCo) (Ay B w hB) hB) (nR _) hB (fun g hg=>by cases hg) (fun g hg=>by cases hg) (by decide) (by decide)
def yA.st {S:Sc} {q:Os} (h:yA B T S ws q w) (hs:∀ x ∈ S.l,x<256) (hw:∀ x ∈ ws,x<18446744073709551616):St B w (fun W=>eN W T S ws q):=fun W hW=>by
 obtain⟨B1,E1,⟨s4,es,f,g1,g2⟩,hb1,he1,d1,d2⟩:=h.h;have h2:an W B (sL q.aw q.nw q.kw) ws:=h.w.keep hW;exact⟨by rw[es];exact (f W fun k a b=>hW k om om).1,(G.EV h.d hW).is hs,h2.words h.wn hw (h2.cap h.wn)⟩
end
set_option maxRecDepth 40000
section
variable {C T:Co} {w W W' w4 w7:Wd} {N cu:Int} {ws:List Nat} {s:Sl} {bw bx B6 bg:Nat}
structure lpS (w:Wd) (C:Co) (s:Sl) (hd:ByteArray) (T:Co) (S:Sc) (N cu:Int) (ws:List Nat) (bw:Nat) (sw:Os) (W:Wd):Prop where
 p:blk W w.heap.size (rfL C s hd) 33
 q:blk W bw (opL T S N cu sw) 54
 t:eN W T S ws sw
 h:aK W C.ho s
 b:Below w.heap.size w W
def lpS.below {hd:ByteArray} {S:Sc} {sw:Os} (h:lpS w C s hd T S N cu ws bw sw W) (hb:Below W.heap.size W W'):lpS w C s hd T S N cu ws bw sw W':=⟨h.p.below hb,h.q.below hb,h.t.below hb,h.h.below hb,h.b.trans (hb.mono h.b.size)⟩
structure lpX (w:Wd) (C:Co) (s:Sl) (hd:ByteArray) (T:Co) (S:Sc) (N cu:Int) (ws:List Nat) (bw:Nat) (sw:Os) (w4:Wd) (T5 bx:Nat) (sx:Wh) (W:Wd):Prop where
 l:lpS w C s hd T S N cu ws bw sw W
 x:blk W bx (rfL C sx.sl hd) 57
 xh:aK W C.ho sx.sl
 xw:whS w4.heap.size T5 W sx
 z:bw<w4.heap.size/\w.heap.size<w4.heap.size/\w4.heap.size<=T5/\T5<=bx
 b4:Below w4.heap.size w4 W
def lpX.below {hd:ByteArray} {S:Sc} {sw:Os} {T5:Nat} {sx:Wh} (h:lpX w C s hd T S N cu ws bw sw w4 T5 bx sx W) (hb:Below W.heap.size W W'):lpX w C s hd T S N cu ws bw sw w4 T5 bx sx W':=⟨h.l.below hb,h.x.below hb,h.xh.below hb,h.xw.same (fun x _ hx=>hb.block x (by have:=h.x.lt;have:=h.z;omega)),h.z,h.b4.trans (hb.mono h.b4.size)⟩
structure lpG (w:Wd) (C:Co) (s:Sl) (hd:ByteArray) (T:Co) (S:Sc) (N cu:Int) (ws:List Nat) (bw:Nat) (sw:Os) (w4:Wd) (bx B6:Nat) (w7:Wd) (bg:Nat) (sg:Os) (W:Wd):Prop where
 l:lpS w C s hd T S N cu ws bw sw W
 g:blk W bg (opL T S N cu sg) 54
 k:∀ x,B6<=x->x<w7.heap.size->W.heap[x]?=w7.heap[x]?
 z:bx<B6/\B6<=w7.heap.size/\w7.heap.size<=bg
 y:bw<w4.heap.size/\w.heap.size<w4.heap.size/\w4.heap.size<=bx
 b4:Below w4.heap.size w4 W
def lpG.below {hd:ByteArray} {S:Sc} {sw sg:Os} (h:lpG w C s hd T S N cu ws bw sw w4 bx B6 w7 bg sg W) (hb:Below W.heap.size W W'):lpG w C s hd T S N cu ws bw sw w4 bx B6 w7 bg sg W':=⟨h.l.below hb,h.g.below hb,fun x h1 h2=>(hb.block x (by have:=h.g.lt;have:=h.z;omega)).trans (h.k x h1 h2),h.z,h.y,h.b4.trans (hb.mono h.b4.size)⟩
def lpG.xmark {hd:ByteArray} {S:Sc} {sw sg:Os} (h:lpG w C s hd T S N cu ws bw sw w4 bx B6 w7 bg sg W) (h4:eN w4 T S ws sw/\aK w4 C.ho s) (hb:Below w4.heap.size W W') (ho:∀ x,bx<=x->x<W.heap.size->W'.heap[x]?=W.heap[x]?):lpG w C s hd T S N cu ws bw sw w4 bx B6 w7 bg sg W':=by
 have hb4:=h.b4.trans hb;refine⟨⟨h.l.p.kept (hb.block _ h.y.2.1),h.l.q.kept (hb.block _ h.y.1),h4.1.below hb4,h4.2.below hb4,h.l.b.trans (hb.mono (by have:=h.y;omega))⟩,h.g.kept (ho _ (by have:=h.z;omega) h.g.lt),fun x h1 h2=>(ho x (by have:=h.z;omega) (by have:=h.g.lt;have:=h.z;omega)).trans (h.k x h1 h2),h.z,h.y,hb4⟩
def lpG.gmark {hd:ByteArray} {S:Sc} {sw sg:Os} (h:lpG w C s hd T S N cu ws bw sw w4 bx B6 w7 bg sg W) (h4:eN w4 T S ws sw/\aK w4 C.ho s) (hb:Below B6 W W'):lpS w C s hd T S N cu ws bw sw W':=by
 have hz:=h.z;have hy:=h.y;have hb4:=h.b4.trans (hb.mono om);exact⟨h.l.p.kept (hb.block _ om),h.l.q.kept (hb.block _ om),h4.1.below hb4,h4.2.below hb4,h.l.b.trans (hb.mono om)⟩
def pt (C:Co) (s:Sl) (hd:ByteArray):(Tp.info? 33).map (·.size)=some (rfL C s hd).length:=kr
def xT (C:Co) (s:Sl) (hd:ByteArray):(Tp.info? 57).map (·.size)=some (rfL C s hd).length:=kr
def Dg (C:Co) (s:Sl) (hd:ByteArray):(Tp.info? 57).map (·.size)=some (rfL C s hd).toArray.size:=kr
def ky (z l:List Value) (ty:TypeId) (hl:z.length=l.length):blk (World.setCells (w.alloc (.cells z.toArray ty)) w.heap.size 0 l) w.heap.size l ty/\Below w.heap.size w (World.setCells (w.alloc (.cells z.toArray ty)) w.heap.size 0 l):=by
 refine⟨?_,sW (nR _) 0 l ((bW _ _).alloc (nR _) _)⟩;have:=blk.put [] z [] l (w:=w.alloc (.cells z.toArray ty)) (b:=w.heap.size) (T:=ty) (by simpa using blk.new w z ty) (by simpa using hl);simpa using this
def mT {hd:ByteArray} {vc:Nat} {T2:Co} {S S2:Sc} {N2 cu2:Int} {ws2:List Nat} (a:g7 C hd vc T S N cu ws) (b:g7 C hd vc T2 S2 N2 cu2 ws2):T2=T/\S2=S/\N2=N/\cu2=cu/\ws2=ws:=by
 rcases a with⟨k,rfl,rfl,rfl,rfl,rfl⟩|⟨k,rfl,rfl,rfl,rfl,rfl⟩
 .rcases b with⟨_,rfl,rfl,rfl,rfl,rfl⟩|⟨k2,_⟩
  .exact⟨rfl,rfl,rfl,rfl,rfl⟩
  .exact Qz k k2
 .rcases b with⟨k2,_⟩|⟨_,rfl,rfl,rfl,rfl,rfl⟩
  .exact Qz k2 k
  .exact⟨rfl,rfl,rfl,rfl,rfl⟩
def yu (C:Co) (hd:ByteArray) (vc:Nat):∃ T S N cu ws,g7 C hd vc T S N cu ws:=by
 by_cases h:fH C hd vc
 .exact⟨_,_,_,_,_,qr ⟨h,rfl,rfl,rfl,rfl,rfl⟩⟩
 .exact⟨_,_,_,_,_,qy ⟨h,rfl,rfl,rfl,rfl,rfl⟩⟩
def jg {hd:ByteArray} {S:Sc} (hR:g7 C hd (bH hd).code T S N cu ws) (hi:aK w C.ho s) (h:C.ho.le 1048576):T.ho.le 1048576/\S.l.length<=1048576/\ws.length<=1048576/\(∀ x ∈ S.l,x<256)/\∀ x ∈ ws,x<18446744073709551616:=by
 rcases hR with⟨k,rfl,rfl,rfl,rfl,rfl⟩|⟨k,rfl,rfl,rfl,rfl,rfl⟩
 .have h1:(dA T hd).l.length<=1048576/\∀ x ∈ (dA T hd).l,x<256:=by
   unfold dA;by_cases hp:T.p=1
   .have:=(At.of (fH.go hi k hp) _ (nR _)).sim;rw[List.take_length] at this;rw[qc (by rw[hp];rfl)];refine⟨?_,this.small⟩;rw[this.l];have:=this.inv.dal;omega
   .rw[qa (by simpa using hp)];exact⟨by decide,fun x hx=>by cases hx⟩
  have h2:(dO T).length<=1048576/\∀ x ∈ dO T,x<18446744073709551616:=by
   unfold dO;split
   .rename_i hs;refine⟨?_,kE _⟩;have hs':T.p=1/\T.tx=true:=by unfold snd at hs;simpa using hs
    have:=(iA T k.1 (k.1.s.1 hs')).2.1;rw[dT,ba];omega
   .exact⟨by decide,fun x hx=>by cases hx⟩
  exact⟨h,h1.1,h2.1,h1.2,h2.2⟩
 .exact⟨CU,by decide,by decide,(fun x hx=>by cases hx),(fun x hx=>by cases hx)⟩
def CV {B T:Nat} {sx:Wh} {hd:ByteArray} (h:whS B T W sx) (hd':whD sx) (hT:T<=W.heap.size) (hB:B<=T):Calls Tp 11 #[aG (rfL C sx.sl hd).toArray,I J 1] W fun o w1=>∃ k:Nat,o = rT (I J (k:Int))/\(∀ x,T<=x->x<W.heap.size->w1.heap[x]?=W.heap[x]?)/\Below B W w1:=by
 refine DQ (Q:=fun k w1=>(∀ x,T<=x->x<W.heap.size->w1.heap[x]?=W.heap[x]?)/\Below B W w1) (fun X hX=>?_);refine (CW (h.same fun x h1 h2=>hX.block x om) hd' (by have:=hX.size;omega) hB).mono ?_;rintro o w1 ⟨k,rfl,h1,h2⟩;exact⟨k,rfl,fun x h4 h5=>(h1 x h4 (by have:=hX.size;omega)).trans (hX.block x h5),(hX.mono om).trans h2⟩
def th (C:Co) (s:Sl) (hd:ByteArray) (w:Wd) (tab:w.rangeAt 0 0 bV) (hz0:0<w.heap.size) (h:aK w C.ho s) (hn:C.ho.le 9223372036854775807) (hsz:hd.size<=maxLen) :
  Calls Tp 3 #[aG (rfL C s hd).toArray] w fun o w'=>o = rT (bO true)/\Below w.heap.size w w':=by
 obtain⟨vf,vd,vo,hv⟩ : ∃ vf:Nat,∃ vd vo:Bool,gH (bH hd) = aG #[I J ((bH hd).code:Int),I J (vf:Int),bO vd,bO vo]:=by
  unfold gH;split
  .exact⟨_,_,_,rfl⟩
  .exact⟨0,_,_,rfl⟩
 have hj:∀ W,Calls Tp 129 #[.string hd] W fun o w'=>o = rT (aG #[I J ((bH hd).code:Int),I J (vf:Int),bO vd,bO vo])/\Below W.heap.size W w':=fun W=>(wO hd W).mono (by rintro o w' ⟨rfl,hb⟩;exact⟨by rw[hv],hb⟩);have hk:∀ W,Calls Tp 53 #[.string hd] W fun o w'=>o = rT (aG #[I J ((bH hd).code:Int),I J (vf:Int),bO vd,bO vo])/\Below W.heap.size W w':=fun W=>(lU hd W hsz).mono (by rintro o w' ⟨rfl,hb⟩;exact⟨by rw[<- tD,hv],hb⟩);obtain⟨T,S,N,cu,ws,hR⟩:=yu C hd (bH hd).code;have HS:Hid (∀ X,Below w.heap.size w X->Calls Tp 5 #[aG (rfL C s hd).toArray,I J 1048576] X fun o w'=>∃ z:Int,o = rT (I J z)/\Below X.heap.size X w'/\(z = -1\/∃ m':Nat,z=(m':Int)/\C.ho.le 1048576)):=fun X hX=>vG X C s hd (h.below hX) hn;have HT:Hid (C.ho.le 1048576->∀ X,aK X C.ho s->Calls Tp 7 #[aG (rfL C s hd).toArray] X fun o w'=>∃ s':Wh,o = rT (aG (rfL C s'.sl hd).toArray)/\St X.heap.size w' (fun W=>aK W C.ho s'.sl)/\whS X.heap.size w'.heap.size w' s'/\whD s'/\dz s'.sl/\Below X.heap.size X w'):=fun hm X hX=>(vA X C s hd (fun Y hY=>Dd Y C s (hX.below hY) hm)).mono (by rintro o w' ⟨s',B,rfl,q0,q1,q2,q3,q4,q5⟩;exact⟨s',rfl,fun W hW=>q1 W (fun k a b=>hW k om b),q2.mono q0 (nR _),q3,q4,q5⟩);have HE:Hid (C.ho.le 1048576->∀ X s',aK X C.ho s'->Calls Tp 6 #[aG (rfL C s' hd).toArray] X fun o w'=>∃ s2,o = rT (aG (opL T S N cu s2).toArray)/\eN w' T S ws s2/\Below X.heap.size X w'):=fun hm X s' h'=>(Dm X C s' hd vf vd vo h' hm hk).mono (by rintro o w' ⟨T1,S1,N1,c1,ws1,q,rfl,q1,q2,q3⟩;obtain⟨rfl,rfl,rfl,rfl,rfl⟩:=mT hR q1;exact⟨q,rfl,q2,q3⟩)
 have HI:Hid (C.ho.le 1048576->∀ X,Below w.heap.size w X->∀ s',aK X C.ho s'->dz s'->Calls Tp 8 #[aG (rfL C s' hd).toArray] X fun o w'=>∃ sg,o = rT (aG (opL T S N cu sg).toArray)/\St X.heap.size w' (fun W=>eN W T S ws sg)/\MKO X.heap.size T S N cu sg w'/\Below X.heap.size X w'):=fun hm X hX s' h' hs'=>(DT X (fun j v hv=>(hX.cell (p:=⟨0,0+j,none⟩) (by exact hz0)).trans (tab j v hv)) (nL hz0 hX.size) C s' hd vf vd vo h' hs' hm hj).mono (by
  rintro o w' ⟨T1,S1,N1,c1,ws1,q,rfl,q1,q2,q3,q4⟩;obtain⟨rfl,rfl,rfl,rfl,rfl⟩:=mT hR q1
  obtain⟨l1,l2,l3,l4,l5⟩:=jg hR h' hm
  by_cases hok:fH C hd (bH hd).code
  .exact⟨q,rfl,(q2 hok).st l4 l5,(q2 hok).mko l2 l3,q4⟩
  .obtain rfl:=q3 hok
   rcases q1 with⟨k,_⟩|⟨_,rfl,rfl,rfl,rfl,rfl⟩
   .exact Qz k hok
   .exact⟨zOs,rfl,fun W _=>xB W,Ax _ _ q4.size,q4⟩)
 have HQ:Hid (C.ho.le 1048576->∀ X s1 s2,eN X T S ws s1->eN X T S ws s2->Calls Tp 9 #[aG (opL T S N cu s1).toArray,aG (opL T S N cu s2).toArray] X fun o w'=>o = rT (bO true)/\Below X.heap.size X w'):=fun hm X s1 s2 h1 h2=>xe X T S N cu ws s1 s2 h1 h2 (jg hR h hm).1 (jg hR h hm).2.1 (jg hR h hm).2.2.1;have HQH:Hid (C.ho.le 1048576->∀ X s1 s2,aK X C.ho s1->aK X C.ho s2->Calls Tp 10 #[aG (rfL C s1 hd).toArray,aG (rfL C s2 hd).toArray] X fun o w'=>o = rT (bO true)/\Below X.heap.size X w'):=fun hm X s1 s2 h1 h2=>tP X _ s1 s2 hd h1 h2 hm;have P0:blk (w.alloc (.cells (rfL C s hd).toArray 33)) w.heap.size (rfL C s hd) 33:=blk.new w _ 33;have HA:Hid (Below w.heap.size w (w.alloc (.cells (rfL C s hd).toArray 33))):=(bW _ _).alloc (nR _) _;have HH:Hid (∀ X,Below w.heap.size w X->aK X C.ho s):=fun X hX=>h.below hX;have HP0:Hid (blk (w.alloc (.cells (rfL C s hd).toArray 33)) w.heap.size (rfL C s hd) 33):=P0;clear h hn P0 hR hj hk hv hsz tab hz0;go_enter Tryz.func3,Tryz.ntmps3;go_wp2_with (first | (refine QA (P:=Tp) rfl 33 _ rfl w.heap.size 0 rfl (rfL C s hd) _ HP0.o.load Tryz.underlying33 rfl (pt _ _ _) ?_));refine (HS.o _ HA.o).mono ?_;rintro o w1 ⟨z,rfl,b1,h1⟩;have HP1:Hid (blk w1 w.heap.size (rfL C s hd) 33):=HP0.o.below b1;have HB1:Hid (Below w.heap.size w w1):=HA.o.trans (b1.mono pQ);clear b1 HP0 HA HS;rcases h1 with rfl|⟨m',rfl,hle⟩
 .go_wp2_with fail;go_ret;exact⟨rfl,HB1.o⟩
 have HLE:Hid (C.ho.le 1048576):=hle;clear hle;go_wp2_with (first | (refine QA (P:=Tp) rfl 33 _ rfl w.heap.size 0 rfl (rfL C s hd) _ HP1.o.load Tryz.underlying33 rfl (pt _ _ _) ?_));refine (HT.o HLE.o _ (HH.o _ HB1.o)).mono ?_;rintro o w2 ⟨s2,rfl,S2,_,_,_,b2⟩;have HO2:Hid (aK w2 C.ho s2.sl):=S2.now;have HP2:Hid (blk w2 w.heap.size (rfL C s hd) 33):=HP1.o.below b2;have HB2:Hid (Below w.heap.size w w2):=HB1.o.trans (b2.mono HB1.o.size);clear S2 b2 HP1 HB1;go_wp2_with fail;refine (HE.o HLE.o w2 s2.sl HO2.o).mono ?_;rintro o w3 ⟨sw,rfl,hT3,b3⟩;have HP3:Hid (blk w3 w.heap.size (rfL C s hd) 33):=HP2.o.below b3;have HB3:Hid (Below w.heap.size w w3):=HB2.o.trans (b3.mono HB2.o.size);have HT3:Hid (eN w3 T S ws sw):=hT3;clear hT3 b3 HP2 HB2 HO2 HE;have HNW:Hid (blk (World.setCells (w3.alloc (.cells Z35.toArray 54)) w3.heap.size 0 (opL T S N cu sw)) w3.heap.size (opL T S N cu sw) 54/\Below w3.heap.size w3 (World.setCells (w3.alloc (.cells Z35.toArray 54)) w3.heap.size 0 (opL T S N cu sw))):=ky Z35 _ _ rfl;have HN3:Hid (blk (w3.alloc (.cells Z35.toArray 54)) w3.heap.size Z35 54):=blk.new w3 _ 54;go_wp2_with (first | (refine QE (P:=Tp) rfl 54 _ _ rfl w3.heap.size 0 (opL T S N cu sw).toArray rfl rfl (HN3.o.there 0 _ (nR _)) (fO _ _ _ _ _) (ey _ _ _ _ _) ?_;generalize hW4:World.setCells (w3.alloc _) w3.heap.size 0 _=w4;have HW4:Hid (lpS w C s hd T S N cu ws w3.heap.size sw w4):=(by rw[<- hW4];exact⟨HP3.o.below HNW.o.2,HNW.o.1,HT3.o.below HNW.o.2,HH.o _ (HB3.o.trans (HNW.o.2.mono HB3.o.size)),HB3.o.trans (HNW.o.2.mono HB3.o.size)⟩);clear hW4 HNW HN3) | (refine QA (P:=Tp) rfl 33 _ rfl w.heap.size 0 rfl (rfL C s hd) _ HW4.o.p.load Tryz.underlying33 rfl (pt _ _ _) ?_));clear HP3 HB3 HT3;generalize w3.heap.size=bw at *;refine (HT.o HLE.o _ HW4.o.h).mono ?_;rintro o w5 ⟨s5,rfl,S5,S5w,S5d,S5s,b5⟩;have HX5:Hid (lpS w C s hd T S N cu ws bw sw w5/\aK w5 C.ho s5.sl/\whS w4.heap.size w5.heap.size w5 s5):=⟨HW4.o.below b5,S5.now,S5w⟩
 have HD5:Hid (whD s5/\dz s5.sl):=⟨S5d,S5s⟩
 have HB45:Hid (Below w4.heap.size w4 w5):=b5;have HH4:Hid (eN w4 T S ws sw/\aK w4 C.ho s):=⟨HW4.o.t,HW4.o.h⟩
 have HZ5:Hid (bw<w4.heap.size/\w.heap.size<w4.heap.size/\w4.heap.size<=w5.heap.size):=⟨HW4.o.q.lt,HW4.o.p.lt,b5.size⟩
 clear S5 S5w S5d S5s b5;have HN5a:Hid (blk (World.setCells (w5.alloc (.cells Z22.toArray 57)) w5.heap.size 0 (rfL C s5.sl hd)) w5.heap.size (rfL C s5.sl hd) 57/\Below w5.heap.size w5 (World.setCells (w5.alloc (.cells Z22.toArray 57)) w5.heap.size 0 (rfL C s5.sl hd))):=ky Z22 _ _ rfl;have HN5b:Hid (blk (w5.alloc (.cells Z22.toArray 57)) w5.heap.size Z22 57):=blk.new w5 _ 57;go_wp2_with (first | (refine QE (P:=Tp) rfl 57 _ _ rfl w5.heap.size 0 (rfL C s5.sl hd).toArray rfl rfl (HN5b.o.there 0 _ (nR _)) (Dg _ _ _) (uH _ _ _) ?_;generalize hW6:World.setCells (w5.alloc _) w5.heap.size 0 _=w6;have HX6:Hid (lpX w C s hd T S N cu ws bw sw w4 w5.heap.size w5.heap.size s5 w6):=(by rw[<- hW6];exact⟨HX5.o.1.below HN5a.o.2,HN5a.o.1,HX5.o.2.1.below HN5a.o.2,HX5.o.2.2.same (fun x _ hx=>HN5a.o.2.block x hx),⟨HZ5.o.1,HZ5.o.2.1,HZ5.o.2.2,nR _⟩,HB45.o.trans (HN5a.o.2.mono HB45.o.size)⟩);clear hW6 HN5a HN5b) | (refine QA (P:=Tp) rfl 57 _ rfl w5.heap.size 0 rfl (rfL C s5.sl hd) _ HX6.o.x.load Tryz.underlying57 rfl (xT _ _ _) ?_));clear HX5 HZ5 HW4 HB45;generalize hT5:w5.heap.size=bx at *;clear hT5;refine (HI.o HLE.o w6 HX6.o.l.b s5.sl HX6.o.xh HD5.o.2).mono ?_;rintro o w7 ⟨sg,rfl,S7,M7,b7⟩;have HX7:Hid (lpX w C s hd T S N cu ws bw sw w4 bx bx s5 w7):=HX6.o.below b7;have HG7:Hid (St w6.heap.size w7 (fun W=>eN W T S ws sg)/\MKO w6.heap.size T S N cu sg w7/\w6.heap.size<=w7.heap.size/\bx<w6.heap.size):=⟨S7,M7,b7.size,HX6.o.x.lt⟩
 clear S7 M7 b7 HX6;have HN7a:Hid (blk (World.setCells (w7.alloc (.cells Z35.toArray 54)) w7.heap.size 0 (opL T S N cu sg)) w7.heap.size (opL T S N cu sg) 54/\Below w7.heap.size w7 (World.setCells (w7.alloc (.cells Z35.toArray 54)) w7.heap.size 0 (opL T S N cu sg))):=ky Z35 _ _ rfl;have HN7b:Hid (blk (w7.alloc (.cells Z35.toArray 54)) w7.heap.size Z35 54):=blk.new w7 _ 54
 go_wp2_with (first
  | (refine QE (P:=Tp) rfl 54 _ _ rfl w7.heap.size 0 (opL T S N cu sg).toArray rfl rfl (HN7b.o.there 0 _ (nR _)) (fO _ _ _ _ _) (ey _ _ _ _ _) ?_;generalize hW8:World.setCells (w7.alloc _) w7.heap.size 0 _=w8;have HX8:Hid (lpX w C s hd T S N cu ws bw sw w4 bx bx s5 w8/\blk w8 w7.heap.size (opL T S N cu sg) 54/\Below w7.heap.size w7 w8):=(by rw[<- hW8];exact⟨HX7.o.below HN7a.o.2,HN7a.o.1,HN7a.o.2⟩);clear hW8 HN7a HN7b)
  | (refine QA (P:=Tp) rfl 54 _ rfl w7.heap.size 0 rfl (opL T S N cu sg) _ HX8.o.2.1.load Tryz.underlying54 rfl (eD _ _ _ _ _) ?_)
  | (refine QA (P:=Tp) rfl 54 _ rfl bw 0 rfl (opL T S N cu sw) _ HX8.o.1.l.q.load Tryz.underlying54 rfl (eD _ _ _ _ _) ?_))
 have HG8:Hid (lpG w C s hd T S N cu ws bw sw w4 bx w6.heap.size w7 w7.heap.size sg w8):=⟨HX8.o.1.l,HX8.o.2.1,fun x h1 h2=>HX8.o.2.2.block x h2,⟨HG7.o.2.2.2,HG7.o.2.2.1,nR _⟩,⟨HX8.o.1.z.1,HX8.o.1.z.2.1,by have:=HX8.o.1.z;omega⟩,HX8.o.1.b4⟩
 have HX9:Hid (lpX w C s hd T S N cu ws bw sw w4 bx bx s5 w8):=HX8.o.1;have HSM:Hid (St w6.heap.size w7 (fun W=>eN W T S ws sg)/\MKO w6.heap.size T S N cu sg w7):=⟨HG7.o.1,HG7.o.2.1⟩
 clear HX8 HG7 HX7;generalize w6.heap.size=B6 at *;refine (HQ.o HLE.o w8 sg sw (HSM.o.1 w8 HG8.o.k) HG8.o.l.t).mono ?_;rintro o w9 ⟨rfl,b9⟩;have HX10:Hid (lpX w C s hd T S N cu ws bw sw w4 bx bx s5 w9/\lpG w C s hd T S N cu ws bw sw w4 bx B6 w7 w7.heap.size sg w9):=⟨HX9.o.below b9,HG8.o.below b9⟩
 clear b9 HX9 HG8;generalize hbg:w7.heap.size=bg at *;have HBG:Hid (w7.heap.size=bg):=hbg;clear hbg;go_wp2_with fail;refine QK (S:=fun W=>lpX w C s hd T S N cu ws bw sw w4 bx bx s5 W/\lpG w C s hd T S N cu ws bw sw w4 bx B6 w7 bg sg W) kr ?_;have hS:lpX w C s hd T S N cu ws bw sw w4 bx bx s5 w9.drew/\lpG w C s hd T S N cu ws bw sw w4 bx B6 w7 bg sg w9.drew:=⟨HX10.o.1.below (bW _ _).drew,HX10.o.2.below (bW _ _).drew⟩
 clear HX10;change wpAnyH Tp _ _ _ _ _ _ _ w9.drew;generalize w9.drew=w10 at *;refine wU 0 (aG (rfL C s5.sl hd).toArray) rfl (QM (by rfl) 57 _ rfl bx 0 rfl (rfL C s5.sl hd) _ (fun W h=>h.1.x.load) Tryz.underlying57 rfl (xT _ _ _)) hS ?_;simp only[Act.put,aA,aB,aC,aD,aE];refine wU 1 (aG (rfL C s hd).toArray) rfl (QM (by rfl) 33 _ rfl w.heap.size 0 rfl (rfL C s hd) _ (fun W h=>h.1.l.p.load) Tryz.underlying33 rfl (pt _ _ _)) hS ?_;simp only[aZ];refine QG (rs:=[2]) kr pQ ?_;refine Q9 rfl (fun K2 hK2=>?_) za;go_simp;refine (HT.o HLE.o _ hS.1.l.h).mono ?_;rintro o w11 ⟨s11,rfl,S11,_,_,_,b11⟩;have HO11:Hid (aK w11 C.ho s11.sl):=S11.now;have hS11:lpX w C s hd T S N cu ws bw sw w4 bx bx s5 w11/\lpG w C s hd T S N cu ws bw sw w4 bx B6 w7 bg sg w11:=⟨hS.1.below b11,hS.2.below b11⟩
 clear S11 b11;go_wp2_with fail;refine hK2.out _ _ hS11 (fun hS2=>?_);clear hS hK2 K2 hS11;have hS:=hS2;clear hS2;refine QG (rs:=[3]) kr pQ ?_;refine Q9 rfl (fun K2 hK2=>?_) za;go_simp;refine (HQH.o HLE.o _ s5.sl s11.sl hS.1.xh HO11.o).mono ?_;rintro o w12 ⟨rfl,b12⟩;have hS12:lpX w C s hd T S N cu ws bw sw w4 bx bx s5 w12/\lpG w C s hd T S N cu ws bw sw w4 bx B6 w7 bg sg w12:=⟨hS.1.below b12,hS.2.below b12⟩
 clear b12 HO11;go_wp2_with fail;refine hK2.out _ _ hS12 (fun hS2=>?_);clear hS hK2 K2 hS12;have hS:=hS2;clear hS2;refine wV 4 (bO false) ?_ hS ?_
 .intro W hSw;clear hS;go_simp
 simp only[aZ];refine QI kr ?_ _;have HX12:Hid (lpX w C s hd T S N cu ws bw sw w4 bx bx s5 w12/\lpG w C s hd T S N cu ws bw sw w4 bx B6 w7 bg sg w12):=hS;clear hS;go_wp2_with (first | (refine QA (P:=Tp) rfl 57 _ rfl bx 0 rfl (rfL C s5.sl hd) _ HX12.o.1.x.load Tryz.underlying57 rfl (xT _ _ _) ?_));have HMX:Hid (Calls Tp 11 #[aG (rfL C s5.sl hd).toArray,I J 1] w12 fun o w1=>∃ k:Nat,o = rT (I J (k:Int))/\(∀ x,bx<=x->x<w12.heap.size->w1.heap[x]?=w12.heap[x]?)/\Below w4.heap.size w12 w1):=CV HX12.o.1.xw HD5.o.1 (qB HX12.o.1.x.lt) HX12.o.1.z.2.2.1;refine (Calls.mono HMX.o) ?_;rintro o w13 ⟨k,rfl,q1,q2⟩;have HG13:Hid (lpG w C s hd T S N cu ws bw sw w4 bx B6 w7 bg sg w13):=HX12.o.2.xmark HH4.o q2 q1;clear q1 q2 HX12 HMX;have hk0:decide ((k:Int)<0)=false:=pQ
 go_wp2_with (first
  | (refine di (by first | rfl | (simp[Region.wanted,yielded];done) | (simp[Region.wanted,yielded];omega)) 54 _ rfl bg 0 rfl (opL T S N cu sg) _ HG13.o.g.load Tryz.underlying54 rfl (eD _ _ _ _ _) ?_)
  | (refine di (by first | rfl | (simp[Region.wanted,yielded];done) | (simp[Region.wanted,yielded];omega)) 54 _ rfl bw 0 rfl (opL T S N cu sw) _ HG13.o.l.q.load Tryz.underlying54 rfl (eD _ _ _ _ _) ?_))
 refine (HQ.o HLE.o w13 sg sw (HSM.o.1 w13 HG13.o.k) HG13.o.l.t).mono ?_;rintro o w14 ⟨rfl,b14⟩;have HG14:Hid (lpG w C s hd T S N cu ws bw sw w4 bx B6 w7 bg sg w14):=HG13.o.below b14;clear b14 HG13 hk0;go_wp2_with (first | (refine QA (P:=Tp) rfl 54 _ rfl bg 0 rfl (opL T S N cu sg) _ HG14.o.g.load Tryz.underlying54 rfl (eD _ _ _ _ _) ?_));have hzz:w7.heap.size<=w14.heap.size:=by have:=HG14.o.g.lt;have:=HG14.o.z;omega
 refine (HSM.o.2 w14 HG14.o.k hzz).mono ?_;rintro o w15 ⟨m,rfl,b15,o15,c15⟩;have HL15:Hid (lpS w C s hd T S N cu ws bw sw w15):=HG14.o.gmark HH4.o b15;have HV15:Hid (blk w15 bg (opL T S N cu sg) 54):=HG14.o.g.kept (o15 _ HG14.o.z.2.2 HG14.o.g.lt);have HC15:Hid (Calls Tp 13 #[aG (opL T S N cu sg).toArray,I J 1] w15 fun o w2=>o = rT (I J (m:Int))/\Below w15.heap.size w15 w2):=c15 w15 (bW _ _);clear b15 o15 c15 HG14 HSM hzz HH4;go_wp2_with (first | (refine QA (P:=Tp) rfl 54 _ rfl bg 0 rfl (opL T S N cu sg) _ HV15.o.load Tryz.underlying54 rfl (eD _ _ _ _ _) ?_));refine (Calls.mono HC15.o) ?_;rintro o w16 ⟨rfl,b16⟩;have HL16:Hid (lpS w C s hd T S N cu ws bw sw w16):=HL15.o.below b16;clear b16 HL15 HV15 HC15;have hm0:¬ (m:Int)<0:=om;go_wp2_with (first | (refine QA (P:=Tp) rfl 33 _ rfl w.heap.size 0 rfl (rfL C s hd) _ HL16.o.p.load Tryz.underlying33 rfl (pt _ _ _) ?_));refine (HT.o HLE.o _ HL16.o.h).mono ?_;rintro o w17 ⟨s17,rfl,S17,_,_,S17s,b17⟩;have HL17:Hid (lpS w C s hd T S N cu ws bw sw w17/\aK w17 C.ho s17.sl/\dz s17.sl):=⟨HL16.o.below b17,S17.now,S17s⟩
 clear S17 S17s b17 HL16;go_wp2_with fail;refine (HI.o HLE.o w17 HL17.o.1.b s17.sl HL17.o.2.1 HL17.o.2.2).mono ?_;rintro o w18 ⟨sh,rfl,S18,_,b18⟩;have HL18:Hid (lpS w C s hd T S N cu ws bw sw w18/\eN w18 T S ws sh):=⟨HL17.o.1.below b18,S18.now⟩
 clear S18 b18 HL17;have HN18a:Hid (blk (World.setCells (w18.alloc (.cells Z35.toArray 54)) w18.heap.size 0 (opL T S N cu sh)) w18.heap.size (opL T S N cu sh) 54/\Below w18.heap.size w18 (World.setCells (w18.alloc (.cells Z35.toArray 54)) w18.heap.size 0 (opL T S N cu sh))):=ky Z35 _ _ rfl;have HN18b:Hid (blk (w18.alloc (.cells Z35.toArray 54)) w18.heap.size Z35 54):=blk.new w18 _ 54
 go_wp2_with (first
  | (refine QE (P:=Tp) rfl 54 _ _ rfl w18.heap.size 0 (opL T S N cu sh).toArray rfl rfl (HN18b.o.there 0 _ (nR _)) (fO _ _ _ _ _) (ey _ _ _ _ _) ?_;generalize hW19:World.setCells (w18.alloc _) w18.heap.size 0 _=w19;have HL19:Hid (lpS w C s hd T S N cu ws bw sw w19/\eN w19 T S ws sh/\blk w19 w18.heap.size (opL T S N cu sh) 54):=(by rw[<- hW19];exact⟨HL18.o.1.below HN18a.o.2,HL18.o.2.below HN18a.o.2,HN18a.o.1⟩);clear hW19 HN18a HN18b)
  | (refine QA (P:=Tp) rfl 54 _ rfl bw 0 rfl (opL T S N cu sw) _ HL19.o.1.q.load Tryz.underlying54 rfl (eD _ _ _ _ _) ?_)
  | (refine QA (P:=Tp) rfl 54 _ rfl w18.heap.size 0 rfl (opL T S N cu sh) _ HL19.o.2.2.load Tryz.underlying54 rfl (eD _ _ _ _ _) ?_))
 refine (HQ.o HLE.o w19 sh sw HL19.o.2.1 HL19.o.1.t).mono ?_;rintro o w20 ⟨rfl,b20⟩;have HL20:Hid (Below w.heap.size w w20):=(HL19.o.1.below b20).b;clear b20 HL19 HL18;go_wp2_with fail;go_ret;exact⟨rfl,HL20.o⟩
end
end Go.Proofs.YtnfmjckkibdcaaaGreatDoor
