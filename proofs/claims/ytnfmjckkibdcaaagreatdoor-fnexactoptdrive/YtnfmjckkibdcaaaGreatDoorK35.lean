import Derived.Test.YtnfmjckkibdcaaaGreatDoorK31
import Derived.Test.YtnfmjckkibdcaaaGreatDoorK34
import Derived.Deep.DeepCutAuto
namespace Go.Proofs.YtnfmjckkibdcaaaGreatDoor
open Go.RowKit
set_option linter.all false
open Go.Value renaming int->I,slice->sL,bool->bO,pointer->pT,agg->aG
open Go.IntKind renaming i64->J
open Go.Ending renaming returned->rT
open Go.Proofs.Tryz renaming prog->Tp
def opn (w:World) (C:Co) (M:Nat) (w':World):Prop:=∃ (w0:World) (G:Lg) (nm:Nat),mx w0 M G 0 0 nm C w'/\Bl w w0/\M<w'.heap.size/\G.gb<w'.heap.size/\Bl w w'
def EJ (w:World) (C:Co) (s:Sl) (h:aK w C.ho s) (hs:dz s) (hok:g9 C) (hm:C.ho.le 1048576):Calls Tp 61 #[aG (coL C s).toArray] w fun o w'=>∃ M,o = rT (pT (some ⟨M,0,none⟩))/\opn w C M w':=by
 refine (oc (R:=fun P w'=>∃ (X:World) (G:Lg) (hd:Nat->Hd),Bl w X/\lh X G C.ho 0 0 hd G.n2 (dQ Unit C.ho.bx G.n2) w'/\P=G.P) ?_ w C s ?_).mono ?_
 .rintro P W W' ⟨X,G,hd,h1,h2,h3⟩ hb;exact⟨X,G,hd,h1,h2.below hb,h3⟩
 .intro W hW;refine (A1 W C.ho s (h.below hW) hs hok.h hm).mono ?_;rintro o w' ⟨G,hd,rfl,h1,_⟩;exact⟨G.P,rfl,⟨W,G,hd,hW,h1,rfl⟩,h1.b⟩
 rintro o w' ⟨P,w5,rfl,rfl,⟨X,G,hd,h1,h2,rfl⟩,h3⟩;have hb5:Bl w5 (w5.alloc (.cells (mcL G.P C).toArray 151)):=qw;have a1:=h2.p.lt;have a2:=h2.m.lt;have a3:=h2.hi;have a4:=h2.x.hi;have a5:=h2.b.size;have hmc:mc X w5.heap.size G C 0 0 hd G.n2 (dQ Unit C.ho.bx G.n2) (w5.alloc (.cells (mcL G.P C).toArray 151)):=
  ⟨blk.new w5 _ 151,h2.below hb5,⟨om,om,om,om,om,om,om⟩⟩
 refine⟨w5.heap.size,rfl,X,G,G.n2,⟨hd,_,hmc⟩,h1,pQ,by simp;omega,h3.trans (hb5.mono h3.size)⟩
open Option renaming none->nn,some->sQ
open Go renaming World->Wd
set_option maxRecDepth 20000
set_option maxHeartbeats 16000000
variable {w0 : Wd} {M : Nat} {G : Lg} {f1 f3 nm : Nat} {V : Wd} {C : Co} {W : Wd}
def msB (C:Co):Bool:=C.tx && (stZ C.te C.re == 1)
def II (h:mx w0 M G f1 f3 nm C W):Calls Tp 276 #[pT (sQ ⟨M,0,nn⟩)] W fun o w'=>o = rT (bO (msB C))/\mx w0 M G f1 f3 nm C w'/\Bl W w':=by
 have H0:Hid (mx w0 M G f1 f3 nm C W):=h;have HS:Hid (Calls Tp 272 #[pT (sQ ⟨M,0,nn⟩)] W fun o w'=>o = rT (I J (stZ C.te C.re))/\mx w0 M G f1 f3 nm C w'/\Bl W w'):=h.state;have y9:=h.m.cell 9 (bO C.tx) rfl;clear h;have HM:Hid (msB C=(C.tx && (stZ C.te C.re == 1))):=rfl;generalize stZ C.te C.re=z at *;obtain⟨tx,etx⟩ : ∃ b,C.tx=b:=⟨_,rfl⟩
 rw[etx] at y9 HM;clear etx;go_enter Tryz.func276,Tryz.ntmps276;cases tx
 .go_wp2_with fail;go_ret;exact⟨by rw[HM.o];rfl,H0.o,bW _ _⟩
 .go_wp2_with fail;refine HS.o.mono ?_;rintro o w1 ⟨rfl,h1,hb⟩;have H1:=DU (qH h1 hb);clear h1 hb;go_wp2_with fail;go_ret;exact⟨by rw[HM.o];rfl,H1.o⟩
def jnC (C:Co) (r:Int):Co:=if (decide (0<=r) && !msB C)=true then { C with p:=1,ct:=0,tx:=true,ho:=dk C.ho r } else { C with p:=1,ct:=0,tx:=false }
structure mr (w0:Wd) (M:Nat) (G:Lg) (f1 f3 nm:Nat) (V:Wd) (C:Co) (W:Wd):Prop where
 x:mx w0 M G f1 f3 nm C W
 k:∀ q,q≠M->q≠G.gb->q<V.heap.size->W.heap[q]?=V.heap[q]?
 z:V.heap.size<=W.heap.size
def mr.new (h:mx w0 M G f1 f3 nm C W):mr w0 M G f1 f3 nm W C W:=⟨h,fun _ _ _ _=>rfl,nR _⟩
def mr.below (h:mr w0 M G f1 f3 nm V C W) {W':Wd} (hb:Bl W W'):mr w0 M G f1 f3 nm V C W':=⟨h.x.below hb,fun q h1 h2 h3=>(hb.block q (nL h3 h.z)).trans (h.k q h1 h2 h3),nT h.z hb.size⟩
def mr.set (h:mr w0 M G f1 f3 nm V C W) (k:Nat) (v:Value) (C':Co) (e:(mcL G.P C).set k v=mcL G.P C') (eh:C'.ho=C.ho):mr w0 M G f1 f3 nm V C' (W.setCell ⟨M,k,nn⟩ v):=⟨h.x.set k v C' e eh,fun q h1 h2 h3=>(QB W ⟨M,k,nn⟩ q _ h1).trans (h.k q h1 h2 h3),by simpa using h.z⟩
def mr.best (h:mr w0 M G f1 f3 nm V C W) (hok:dw C.ho.st C.ho.bx) (r:Int) (hr:eE C.ho.bx r):Calls Tp 275 #[pT (sQ ⟨G.P,0,nn⟩)] W fun o w'=>o = rT (I J r)/\mr w0 M G f1 f3 nm V C w':=by
 obtain⟨hs,D,hx⟩:=h.x;refine (Ju W G.P _ G.n2 G.kb C.ho.bx C.ho.st (hx.h.p.cell 5 _ rfl) (hx.h.x.is hx.h.bd.nk) hx.h.bd.m2 hok).mono ?_;rintro o w' ⟨r',rfl,h1,h2⟩;exact⟨by rw[GK h1 hr],h.below h2⟩
def mr.send (h:mr w0 M G f1 f3 nm V C W) (i:Int):Calls Tp 277 #[pT (sQ ⟨G.P,0,nn⟩),I J i] W fun o w'=>o = rT (.tuple #[])/\mr w0 M G f1 f3 nm V { C with ho:=dk C.ho i } w':=by
 obtain⟨hs,D,hx⟩:=h.x;refine (I7 W G.P G.gb G.n2 G.kb C.ho.bx i (hx.h.p.cell 5 _ rfl) (hx.h.x.is hx.h.bd.nk) hx.h.x.row hx.h.bd.m2).mono ?_;rintro o w' ⟨rfl,W1,hb,⟨rfl,e⟩|⟨k,hk,rfl,e,_⟩⟩
 .refine⟨rfl,?_⟩;rw[show dk C.ho i=C.ho by unfold dk;rw[e]];exact h.below hb
 .have h1:=hx.below hb;refine⟨rfl,⟨hs,D,?_,?_,hx.o⟩,fun q h1 h2 h3=>(QB W1 ⟨G.gb,k*8,nn⟩ q _ h2).trans ((h.below hb).k q h1 h2 h3),by simpa using (h.below hb).z⟩
  .exact h1.m.setOther hx.o.2.2.2.1 _ _
  .rw[show dk C.ho i=Dl C.ho k 2 by unfold dk;rw[e,yg hk]];exact h1.h.state k hk 2
def mr.mustS (h:mr w0 M G f1 f3 nm V C W):Calls Tp 276 #[pT (sQ ⟨M,0,nn⟩)] W fun o w'=>o = rT (bO (msB C))/\mr w0 M G f1 f3 nm V C w':=(II h.x).mono fun o w' ⟨h1,_,h3⟩=>⟨h1,h.below h3⟩
def mr.join (h:mr w0 M G f1 f3 nm V C W) (hok:dw C.ho.st C.ho.bx) (r:Int) (hr:eE C.ho.bx r) (h0:decide (0<=r)=true) (hms:msB C=false) :
  Calls Tp 241 #[pT (sQ ⟨M,0,nn⟩)] W fun o w'=>o = rT (.tuple #[])/\mr w0 M G f1 f3 nm V (jnC C r) w':=by
 have HB:Hid (Calls Tp 275 #[pT (sQ ⟨G.P,0,nn⟩)] W fun o w'=>o = rT (I J r)/\mr w0 M G f1 f3 nm V C w'):=h.best hok r hr;have y0:=h.x.m.cell 0 (pT (sQ ⟨G.P,0,nn⟩)) rfl;have HMS:Hid (∀ X,mr w0 M G f1 f3 nm V C X->Calls Tp 276 #[pT (sQ ⟨M,0,nn⟩)] X fun o w'=>o = rT (bO false)/\mr w0 M G f1 f3 nm V C w'):=fun X hX=>by rw[<- hms];exact hX.mustS
 have HSD:Hid (∀ Y X,mr w0 M G f1 f3 nm V X Y->Calls Tp 277 #[pT (sQ ⟨G.P,0,nn⟩),I J r] Y fun o w'=>o = rT (.tuple #[])/\mr w0 M G f1 f3 nm V { X with ho:=dk X.ho r } w'):=fun Y X hY=>hY.send r;have HJ:Hid (jnC C r = { C with p:=1,ct:=0,tx:=true,ho:=dk C.ho r }):=by show _=_;unfold jnC;rw[h0,hms];rfl
 clear h hok hr hms;go_enter Tryz.func241,Tryz.ntmps241;go_wp2_with fail;refine HB.o.mono ?_;rintro o w1 ⟨rfl,h1⟩;have H1:=DU h1;clear h1 HB y0;go_wp2_with fail;refine (HMS.o _ H1.o).mono ?_;rintro o w2 ⟨rfl,h2⟩;have H2:=DU h2;have y3:=h2.x.m.cell 3 (I J C.p) rfl;have y4:=h2.x.m.cell 4 (I J C.ct) rfl;have y9:=h2.x.m.cell 9 (bO C.tx) rfl;have z3:=h2.x.m.free 3;have z4:=h2.x.m.free 4;have z9:=h2.x.m.free 9;have x0:=h2.x.m.cell 0 (pT (sQ ⟨G.P,0,nn⟩)) rfl;clear h2 HMS H1;have H3:Hid (mr w0 M G f1 f3 nm V { C with p:=1,ct:=0,tx:=true } (World.setCell (World.setCell (World.setCell w2 ⟨M,3,nn⟩ (I J 1)) ⟨M,4,nn⟩ (I J 0)) ⟨M,9,nn⟩ (bO true))):=(((H2.o.set 3 (I J 1) { C with p:=1 } rfl rfl).set 4 (I J 0) { C with p:=1,ct:=0 } rfl rfl).set 9 (bO true) { C with p:=1,ct:=0,tx:=true } rfl rfl)
 go_wp2_with fail;refine (HSD.o _ _ H3.o).mono ?_;rintro o w5 ⟨rfl,h5⟩;have H5:=DU h5;clear h5;go_wp2_with fail;first | go_end0 | (try simp only[Exit.inBlock,Exit.then]);refine bN ?_
 exact⟨rfl,by rw[HJ.o];exact H5.o⟩
def mr.begin_yes (h:mr w0 M G f1 f3 nm V C W) (hp:C.p=0) (hok:dw C.ho.st C.ho.bx) (r:Int) (hr:eE C.ho.bx r) (h0:decide (0<=r)=true) (hms:msB C=false) :
  Calls Tp 365 #[pT (sQ ⟨M,0,nn⟩)] W fun o w'=>o = rT (bO true)/\mr w0 M G f1 f3 nm V (jnC C r) w':=by
 have HB:Hid (Calls Tp 275 #[pT (sQ ⟨G.P,0,nn⟩)] W fun o w'=>o = rT (I J r)/\mr w0 M G f1 f3 nm V C w'):=h.best hok r hr;have HJ:Hid (∀ X,mr w0 M G f1 f3 nm V C X->Calls Tp 241 #[pT (sQ ⟨M,0,nn⟩)] X fun o w'=>o = rT (.tuple #[])/\mr w0 M G f1 f3 nm V (jnC C r) w'):=fun X hX=>hX.join hok r hr h0 hms;have y0:=h.x.m.cell 0 (pT (sQ ⟨G.P,0,nn⟩)) rfl;have y3:=h.x.m.cell 3 (I J C.p) rfl;rw[hp] at y3;clear h hok hr hms hp;go_enter Tryz.func365,Tryz.ntmps365;go_wp2_with fail;refine HB.o.mono ?_;rintro o w1 ⟨rfl,h1⟩;have H1:=DU h1;clear h1 HB y0 y3;go_wp2_with fail;refine (HJ.o _ H1.o).mono ?_;rintro o w2 ⟨rfl,h2⟩;have H2:=DU h2;clear h2 HJ H1;go_wp2_with fail;go_ret;exact⟨rfl,H2.o⟩
def Jo (w:Wd) (H:Ho) (s:Sl) (i:Int) (B T0 T1 T2:Nat) (h:spS B T0 T1 T2 H s w) (hn2:H.bx.length<=1000) :
  Calls Tp 43 #[aG (hoL H s).toArray,I J i] w fun o w'=>o = rT (aG (hoL H s).toArray)/\spS B T0 T1 T2 (dk H i) s w'/\(∀ q,T2<=q->q<w.heap.size->w'.heap[q]?=w.heap[q]?)/\Below B w w':=by
 have H0:Hid (reS w (hoL H s) ((w.alloc (.cells (hoL H s).toArray 41)).alloc (.cells zX.toArray 41))/\Bl w ((w.alloc (.cells (hoL H s).toArray 41)).alloc (.cells zX.toArray 41))):=⟨reS.new w _,qw.alloc pQ _⟩
 have hln:=h.n2;have HLN:=DU hln;have HBS:Hid (∀ W,Bl w W->Calls Tp 86 #[aG (hoL H s).toArray] W fun o w'=>∃ r:Int,o = rT (I J r)/\bsy H.bx r/\Bl W w'):=fun W hW=>ln W H s (h.below hW).is.bx om;have HS:=DU h;obtain⟨gb,hs0,ea,hx⟩:=h.x;have x5:(((w.alloc (.cells (hoL H s).toArray 41)).alloc (.cells zX.toArray 41))).cell? ⟨w.heap.size,5,nn⟩=sQ (sL (sQ ⟨gb,0,nn⟩) s.n2 s.k2):=by rw[<- ea];exact H0.o.1.p.cell 5 _ (by unfold hoL;rfl)
 have HX:=DU hx;have HA:=DU ea;have hcp:=hx.cap;have ho:=h.o;have HGB:Hid (gb<T1/\T0<=gb/\T1<=T2/\T2<=w.heap.size/\B<=T0):=⟨hx.hi,hx.lo,ho.2.2.1,ho.2.2.2,ho.1⟩
 clear h hx ea ho hln;go_enter Tryz.func43,Tryz.ntmps43;go_upto_region 1 with fail
 go_cut [27] (fun x wx=>∃ b:Bool,x = bO b/\Hid (b=true->bA H.bx i=H.bx)/\Hid (b=false->∃ (k:Nat) (hk:k<H.bx.length),i=(k:Int)/\H.bx[k].x=1/\bA H.bx i=H.bx.set k { H.bx[k] with x:=2 })/\Hid (reS w (hoL H s) wx/\Bl w wx));case first=>
  by_cases hi0:i<0
  .have d0:decide (i<0)=true:=by simpa using hi0
   have HT:=DU (Gi (bx:=H.bx) (qr hi0));clear hi0;go_wp2_with fail;go_meet;case rel=>exact⟨true,rfl,fun _=>HT.o,fun x=>(by cases x),H0.o⟩
  by_cases hi1:(s.n2:Int)<=i
  .have d0:decide (i<0)=false:=by simpa using hi0
   have d1:decide ((s.n2:Int)<=i)=true:=by simpa using hi1
   have HT:=DU (Gi (bx:=H.bx) (i:=i) (qy (by have:=HLN.o;omega)));go_wp2_with fail;go_meet;case rel=>exact⟨true,rfl,fun _=>HT.o,fun x=>(by cases x),H0.o⟩
  obtain⟨k,rfl⟩ : ∃ k:Nat,i=(k:Int):=⟨i.toNat,om⟩
  have hk2:k<s.n2:=om;have hk:k<H.bx.length:=by have:=HLN.o;omega
  have Y0:Hid (∀ v,H.bx[k].x=v->(((w.alloc (.cells (hoL H s).toArray 41)).alloc (.cells zX.toArray 41))).cell? ⟨gb,k*8,nn⟩=sQ (I J v)):=fun v e=>by
   subst e;exact (H0.o.2.cell (by exact nL HGB.o.1 (by have:=HGB.o;omega))).trans (HX.o.rng k hk 0 _ rfl)
  have d0:decide ((k:Int)<0)=false:=pQ;have d1:decide (s.n2<=k)=false:=by simp;omega
  have HKK:=DU hk;clear hi0 hi1;by_cases hx:H.bx[k].x=1
  .have HX1:=DU hx;have y0:=Y0.o 1 hx;clear hx;go_wp2_with (refine di (by first | rfl | (simp[Region.wanted,yielded];done)) 41 (.tmp 2) rfl w.heap.size 0 rfl (hoL H s) _ H0.o.1.p.load Tryz.underlying41 rfl (px H s) ?_);refine (HBS.o _ H0.o.2).mono ?_;rintro o w5 ⟨r,rfl,hr,hb5⟩;have HR:=DU hr;have H5:Hid (reS w (hoL H s) w5/\Bl w w5):=⟨H0.o.1.below hb5,H0.o.2.trans (hb5.mono H0.o.2.size)⟩
   clear hr hb5;by_cases h0:0<=r
   .have dr:decide (0<=r)=true:=by simpa using h0
    have HT:=DU (Gv (i:=(k:Int)) HR.o h0);clear h0;go_wp2_with fail;go_meet;case rel=>exact⟨true,rfl,fun _=>HT.o,fun x=>(by cases x),H5.o⟩
   .have dr:decide (0<=r)=false:=by simpa using h0
    have HT:=DU (vo HKK.o HX1.o HR.o om);clear h0;go_wp2_with fail;go_meet;case rel=>exact⟨false,rfl,fun x=>(by cases x),fun _=>⟨k,HKK.o,rfl,HX1.o,HT.o⟩,H5.o⟩
  .have HT:=DU (Hh hk hx);obtain⟨v,ev⟩ : ∃ v,H.bx[k].x=v:=⟨_,rfl⟩
   have y0:=Y0.o v ev;have hx':(v != 1)=true:=by rw[<- ev];simpa using hx
   clear hx ev;go_wp2_with fail;go_meet;case rel=>exact⟨true,rfl,fun _=>HT.o,fun x=>(by cases x),H0.o⟩
 case rest=>
 obtain⟨b,rfl,f1,f2,H5⟩:=hcut;clear H0 x5 HBS;cases b;case true=>
  have HT:Hid (dk H i=H):=by show _=_;unfold dk;rw[f1.o rfl]
  go_wp2_with (first | (refine qG 41 H5.o.1.p.load Tryz.underlying41 (px H s) ?_) | (refine QE (P:=Tp) rfl 41 (.tmp 4) (.tmp 28) rfl (w.heap.size+1) 0 (hoL H s).toArray rfl rfl (H5.o.1.r.there 0 _ (by rw[qS,BD];decide)) (Cw H s) (oC H s) ?_;generalize hW8:World.setCells _ (w.heap.size+1) 0 _=w8;have HW8:Hid (_=w8):=hW8;clear hW8));have e8:=HW8.o;have hF:blk w8 (w.heap.size+1) (hoL H s) 41:=by
   rw[<- e8];have:=blk.put [] Z10 [] (hoL H s) (w:=wc) (b:=w.heap.size+1) (T:=41) (by simpa using H5.o.1.r) (by rw[BD];rfl);simpa using this
  have hL:=QJ (P:=Tp) w8 (w.heap.size+1) 0 41 _ _ hF.load Tryz.underlying41 rfl (px H s);refine bC Tryz.results43 hL ?_;have b8:Bl w w8:=by
   rw[<- e8];exact sW om 0 _ H5.o.2
  rw[HT.o];exact⟨rfl,HS.o.below b8,fun q _ hq=>b8.block q hq,b8.mono (by have:=HGB.o;omega)⟩
 case false=>
 obtain⟨k,hk,ei,hx1,ht⟩:=f2.o rfl;subst ei;have HT:Hid (dk H (k:Int)=Dl H k 2):=by show _=_;unfold dk;rw[ht,yg hk]
 have hk2:k<s.n2:=by have:=HLN.o;omega
 have HKK:=DU hk;have HX5:Hid (bxR T0 T1 gb s.n2 s.k2 H.bx hs0 wc):=HX.o.st (fun q _ h2=>H5.o.2.block q (by have:=HGB.o;omega));have x5:wc.cell? ⟨w.heap.size,5,nn⟩=sQ (sL (sQ ⟨gb,0,nn⟩) s.n2 s.k2):=by rw[<- HA.o];exact H5.o.1.p.cell 5 _ (by unfold hoL;rfl)
 have Y0:∀ v,H.bx[k].x=v->wc.cell? ⟨gb,k*8,nn⟩=sQ (I J v):=fun v e=>by subst e;exact HX5.o.rng k hk 0 _ rfl
 have y0:=Y0 1 hx1;clear Y0;have z0:=(HX5.o.row (k*8) om).2;have H7:Hid (reS w (hoL H s) (wc.setCell ⟨gb,k*8,nn⟩ (I J 2))):=⟨H5.o.1.p.setOther (by have:=HGB.o;omega) _ _,H5.o.1.r.setOther (by have:=HGB.o;omega) _ _⟩
 clear hk hx1 ht f1 f2;go_upto_region 4 with fail
 go_wp2_with (first | (refine qG 41 H7.o.p.load Tryz.underlying41 (px H s) ?_) | (refine QE (P:=Tp) rfl 41 (.tmp 4) (.tmp 34) rfl (w.heap.size+1) 0 (hoL H s).toArray rfl rfl (H7.o.r.there 0 _ (by rw[qS,BD];decide)) (Cw H s) (oC H s) ?_;generalize hW8:World.setCells _ (w.heap.size+1) 0 _=w8;have HW8:Hid (_=w8):=hW8;clear hW8));have e8:=HW8.o;have hF:blk w8 (w.heap.size+1) (hoL H s) 41:=by
  rw[<- e8];have:=blk.put [] Z10 [] (hoL H s) (w:=(wc.setCell ⟨gb,k*8,nn⟩ (I J 2))) (b:=w.heap.size+1) (T:=41) (by simpa using H7.o.r) (by rw[BD];rfl);simpa using this
 have hL:=QJ (P:=Tp) w8 (w.heap.size+1) 0 41 _ _ hF.load Tryz.underlying41 rfl (px H s);refine bC Tryz.results43 hL ?_;have hg:=HGB.o;have hpl:=H5.o.1.r.lt;rw[HT.o];refine⟨rfl,I6 HS.o (HS.o.below H5.o.2) H5.o.2 (bW _ _) HA.o HX5.o HKK.o 2 ⟨om,om⟩ e8,fun q h1 hlt=>?_,?_⟩
 .rw[<- e8];exact (sO _ q om _ _ _).trans ((QB wc ⟨gb,k*8,nn⟩ q _ (by show q≠gb;omega)).trans (H5.o.2.block q hlt))
 .rw[<- e8];exact sW om 0 _ ((H5.o.2.mono om).setCell (by show B<=gb;omega) _)
def rdC (C:Co) (r:Int):Co:=if C.p=0/\0<=r then { C with p:=1,tx:=true,ho:=dk C.ho r } else C
def It {bx:List R8} {r:Int} (hb:eE bx r) (h0:0<=r) (hn:¬ wrP bx) {st:Int} (hok:∀ j (h:j<bx.length),cZ st bx[j]):wrP (bA bx r)/\∀ j (h:j<(bA bx r).length),cZ st (bA bx r)[j]:=by
 rcases hb with⟨rfl,_⟩|⟨i,rfl,hi,hx,_⟩
 .omega
 have hq:∀ k (h:k<bx.length),¬ onW bx[k]:=Classical.not_not.1 hn;rw[vo hi hx (qy ⟨hq,rfl⟩) om];refine⟨fun ha=>ha i (by simpa using hi) (qr pQ),fun j hj=>?_⟩;rw[List.getElem_set];split
 .have h1:=hok i hi;unfold cZ at h1 ⊢;rw[zb om] at h1;rw[zb pQ];exact⟨pQ,h1.2⟩
 .exact hok j _
def JI (hok:okM C) (hp:C.p=0) {r:Int} (hr:0<=r):msB C=false/\jnC C r=rdC C r:=by
 have ht:C.tx=false:=by
  cases e:C.tx
  .rfl
  .exact Qz hp (hok.tx e).2
 have hm:msB C=false:=by unfold msB;rw[ht];rfl
 have hc:C.ct=0:=by
  have h1:=hok.ct;rw[hp] at h1;have h2:rLo 0=0/\rHi 0=0:=by decide
  omega
 refine⟨hm,?_⟩;unfold jnC rdC;rw[hm,zc (by simpa using hr),zc ⟨hp,hr⟩,hc]
def mr.begin_no (h:mr w0 M G f1 f3 nm V C W) (hok:dw C.ho.st C.ho.bx) (r:Int) (hr:eE C.ho.bx r) (p0:Bool) (e0:(C.p == 0)=p0) (hn:p0=true->decide (0<=r)=false) :
  Calls Tp 365 #[pT (sQ ⟨M,0,nn⟩)] W fun o w'=>o = rT (bO false)/\mr w0 M G f1 f3 nm V C w':=by
 have HB:Hid (Calls Tp 275 #[pT (sQ ⟨G.P,0,nn⟩)] W fun o w'=>o = rT (I J r)/\mr w0 M G f1 f3 nm V C w'):=h.best hok r hr;have H0:=ah h;have y0:=h.x.m.cell 0 (pT (sQ ⟨G.P,0,nn⟩)) rfl;have y3:=h.x.m.cell 3 (I J C.p) rfl;clear h hok hr;cases p0
 .go_enter Tryz.func365,Tryz.ntmps365;go_wp2_with fail;go_ret;exact⟨rfl,H0.o⟩
 .have hr0:=hn rfl;clear hn;go_enter Tryz.func365,Tryz.ntmps365;go_wp2_with fail;refine HB.o.mono ?_;rintro o w1 ⟨rfl,h1⟩;have H1:=ah h1;clear h1 HB y0 y3;go_wp2_with fail;go_ret;exact⟨rfl,H1.o⟩
def mr.begin_any (h:mr w0 M G f1 f3 nm V C W) (hok:g9 C) (r:Int) (hr:eE C.ho.bx r) :
  Calls Tp 365 #[pT (sQ ⟨M,0,nn⟩)] W fun o w'=>∃ b,o = rT (bO b)/\(b=true↔C.p=0/\0<=r)/\mr w0 M G f1 f3 nm V (rdC C r) w':=by
 by_cases c:C.p=0/\0<=r
 .have e:=JI hok.m c.1 c.2;rw[<- e.2];exact (h.begin_yes c.1 hok.h.bx r hr (by simpa using c.2) e.1).mono fun o w' ⟨h1,h2⟩=>⟨true,h1,⟨fun _=>c,fun _=>rfl⟩,h2⟩
 .have e:rdC C r=C:=by unfold rdC;rw[zb c]
  rw[e];refine (h.begin_no hok.h.bx r hr (C.p == 0) rfl fun hp=>?_).mono fun o w' ⟨h1,h2⟩=>⟨false,h1,⟨fun x=>(by cases x),fun x=>Qz x c⟩,h2⟩
  have:C.p=0:=by simpa using hp
  rw[decide_eq_false_iff_not];exact fun x=>c ⟨this,x⟩
end Go.Proofs.YtnfmjckkibdcaaaGreatDoor
