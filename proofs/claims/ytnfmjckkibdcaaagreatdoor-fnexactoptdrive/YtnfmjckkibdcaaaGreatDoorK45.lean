import Derived.Test.YtnfmjckkibdcaaaGreatDoorK44
import Derived.Deep.RegionHeld3
namespace Go.Proofs.YtnfmjckkibdcaaaGreatDoor
open Go.RowKit
set_option linter.all false
set_option maxRecDepth 20000
set_option maxHeartbeats 8000000
open Go.Value renaming int->I,slice->sL,bool->bO,pointer->pT,agg->aG
open Go.IntKind renaming i64->J
open Go.Ending renaming returned->rT
open Go.Proofs.Tryz renaming prog->Tp
section
variable {w : World} {C : Co} {S : Sc} {N cu : Int} {ws : List Nat} {R : Nat} {w0 : World} {M : Nat} {G : Lg} {nm B : Nat} {o : Os} {V W : World}
def opO.level (h:opO w C S N cu ws R w0 M G nm B o W) (hs:∀ x ∈ ws,x<18446744073709551616) (hw:ws.length<=1048576) (hc:C.p=1->C.tx=true->0<=cu/\cu<64*(ws.length:Int)) :
  Calls Tp 371 #[pT (some ⟨R,0,none⟩)] W fun o w'=>o = rT (I J (olZ C S cu ws))/\Bl W w':=by
 have HO:=ah h;have y0:=h.r.cell 0 (pT (some ⟨M,0,none⟩)) rfl;have y3:=h.m.m.cell 3 (I J C.p) rfl;have y6:=h.m.m.cell 6 (bO C.wk) rfl;have y9:=h.m.m.cell 9 (bO C.tx) rfl;by_cases hp:C.p=1
 .have hp2:¬ (C.p=2/\C.wk=false):=om;rw[hp] at y3;cases ht:C.tx
  .rw[ht] at y9;have HS:Hid (Calls Tp 65 #[pT (some ⟨M,0,none⟩)] W fun o w'=>o = rT (bO false)/\w'=W):=ir W M true false 1 rfl y3 y9;have HR:Hid (olZ C S cu ws=if ((S.f == 12) && (S.ac == S.cr))=true then 0 else 1):=by
    show _=_;unfold olZ;rw[zb hp2,zc hp,zb (by rw[ht];decide)];simp
   clear h hs hw hc hp hp2 ht y6 y9;obtain⟨b1,e1⟩ : ∃ b,(S.f == 12)=b:=⟨_,rfl⟩
   obtain⟨b2,e2⟩ : ∃ b,(S.ac == S.cr)=b:=⟨_,rfl⟩
   rw[e1,e2] at HR;go_enter Tryz.func371,Tryz.ntmps371;go_wp2_with fail;refine HS.o.mono ?_;rintro ox w1 ⟨rfl,rfl⟩;go_wp2_with fail;refine QK (S:=fun X=>blk X R (ocL M S N cu o) 137/\Bl w1 X) kr ?_;have hS:blk w1.drew R (ocL M S N cu o) 137/\Bl w1 w1.drew:=⟨HO.o.r.below (bW _ _).drew,(bW _ _).drew⟩
   clear HS y0 y3;refine tk 0 ?_;refine tk 1 ?_;refine tk 2 ?_;refine tk 3 ?_;refine tk 4 ?_ (hy:=fun X hX=>by (have y:=hX.1.cell 1 (I J S.f) rfl;go_simp;try rfl));refine tk 5 ?_ (v:=bO b1);refine tk 6 ?_;cases b1
   .refine tn 7 ?_;refine tn 8 ?_;refine tn 9 ?_;refine tn 10 ?_;refine tn 11 ?_;refine tn 12 ?_;refine tn 13 ?_;refine tn 14 ?_;refine tn 15 ?_;refine tn 16 ?_;refine tn 17 ?_;refine tk 18 ?_;refine al 19 fun K hK=>?_;go_simp;refine (GL _ _).mono ?_;rintro ox w2 ⟨rfl,rfl⟩;go_wp2_with fail;refine hK.out _ _ hS (fun hS2=>?_);refine tk 20 ?_;have hbl:=hS.2;refine QI kr ?_ _;clear hS hS2 hK K;go_wp2;go_ret;exact⟨by rw[HR.o];rfl,hbl⟩
   .refine tk 7 ?_;refine tk 8 ?_;refine tk 9 ?_;refine tk 10 ?_;refine tk 11 ?_ (hy:=fun X hX=>by (have y:=hX.1.cell 6 (I J S.ac) rfl;go_simp;try rfl));refine tk 12 ?_;refine tk 13 ?_;refine tk 14 ?_;refine tk 15 ?_;refine tk 16 ?_ (hy:=fun X hX=>by (have y:=hX.1.cell 5 (I J S.cr) rfl;go_simp;try rfl));refine tk 17 ?_ (v:=bO b2);refine tk 18 ?_;refine al 19 fun K hK=>?_;go_simp;refine (GL _ _).mono ?_;rintro ox w2 ⟨rfl,rfl⟩;have HR2:Hid (olZ C S cu ws=if b2=true then 0 else 1):=by show _=_;rw[HR.o,Bool.true_and]
    generalize (if b2=true then (0:Int) else 1)=lv at *;go_wp2_with fail;refine hK.out _ _ hS (fun hS2=>?_);refine tk 20 ?_;have hbl:=hS.2;refine QI kr ?_ _;clear hS hS2 hK K HR;go_wp2;go_ret;exact⟨by rw[HR2.o];rfl,hbl⟩
  .rw[ht] at y9;have HS:Hid (Calls Tp 65 #[pT (some ⟨M,0,none⟩)] W fun o w'=>o = rT (bO true)/\w'=W):=ir W M true true 1 rfl y3 y9;obtain⟨c0,c1⟩:=hc hp ht;obtain⟨i,rfl⟩:=Int.eq_ofNat_of_zero_le c0;have HR:Hid (olZ C S (i:Int) ws=(lev ws i:Int)):=by
    show _=_;unfold olZ;rw[zb hp2,zc hp,zc ht,Int.toNat_natCast]
   have HL:Hid (∀ X,Bl W X->Calls Tp 223 #[pkV N o.aw o.nw o.kw,I J (i:Int)] X fun q w'=>q = rT (I J (lev ws i:Int))/\Bl X w'):=fun X hX=>by
    have hX':=h.below hX;refine (td X N o.aw o.nw o.kw ws (hX'.x.words hX'.xn hs (hX'.x.cap hX'.xn)) i (by have:=h.xn;omega) (by have:=h.xn;omega)).mono ?_;rintro q w' ⟨rfl,rfl⟩;exact⟨rfl,qw⟩
   rw[HR.o];clear h hs hw hc hp hp2 ht y6 y9 c0 c1 HR;generalize (lev ws i:Int)=lv at *;go_enter Tryz.func371,Tryz.ntmps371;go_wp2_with fail;refine HS.o.mono ?_;rintro ox w1 ⟨rfl,rfl⟩;go_wp2_with fail;refine QK (S:=fun X=>blk X R (ocL M S N (i:Int) o) 137/\Bl w1 X) kr ?_;have hS:blk w1.drew R (ocL M S N (i:Int) o) 137/\Bl w1 w1.drew:=⟨HO.o.r.below (bW _ _).drew,(bW _ _).drew⟩
   refine tk 0 ?_;refine tk 1 ?_;refine tk 2 ?_;refine wU 3 (pkV N o.aw o.nw o.kw) rfl (QM (by rfl) 52 (.tmp 11) rfl R 12 rfl [I J N,sL o.aw o.nw o.kw] _ (fun X h=>DC h.1) Tryz.underlying52 rfl (ur _ _ _ _)) hS ?_;simp only[aZ];refine tk 4 ?_;refine tk 5 ?_;refine tk 6 ?_;refine tk 7 ?_ (hy:=fun X hX=>by (have y:=hX.1.cell 14 (I J (i:Int)) rfl;go_simp;try rfl));refine al 8 fun K hK=>?_;go_simp;refine (HL.o _ hS.2).mono ?_;rintro ox w2 ⟨rfl,hb2⟩;go_wp2_with fail;refine hK.out _ _ ⟨hS.1.below hb2,hS.2.trans (hb2.mono hS.2.size)⟩ (fun hS2=>?_);clear hS hK K hb2;have hS:=hS2;clear hS2;refine tk 9 ?_;have hbl:=hS.2;refine QI kr ?_ _;clear hS;go_wp2;go_ret;exact⟨rfl,hbl⟩
 .have e1:(C.p == 1)=false:=by simpa using hp
  have HS:Hid (Calls Tp 65 #[pT (some ⟨M,0,none⟩)] W fun o w'=>o = rT (bO false)/\w'=W):=ir W M false C.tx C.p e1 y3 y9;have HL:=ah (Ja W M C.p (C.p == 2) C.wk rfl y3 y6);have HR:Hid (olZ C S cu ws=if ((C.p == 2) && !C.wk)=true then 0 else 1):=by
   show _=_;unfold olZ;rw[zb hp];cases C.wk <;> simp
  generalize (if ((C.p == 2) && !C.wk)=true then (0:Int) else 1)=lv at *;rw[HR.o];clear h hs hw hc hp y6 y9;go_enter Tryz.func371,Tryz.ntmps371;go_wp2_with fail;refine HS.o.mono ?_;rintro ox w1 ⟨rfl,rfl⟩;go_wp2_with fail;refine HL.o.mono ?_;rintro ox w2 ⟨rfl,rfl⟩;go_wp2_with fail;go_ret;exact⟨rfl,bW _ _⟩
end
open Option renaming none->nn,some->sQ
def odP (C:Co) (S:Sc) (N:Int) (ws:List Nat) (r:Int) (T:Co) (S':Sc) (N':Int) (ws':List Nat):Prop:=(C.p=0/\0<=r/\S'=sc0/\N'=((dq T).size:Int)/\ws'=wl (lt (dq T)))\/(¬ (C.p=0/\0<=r)/\S'=S/\N'=N/\ws'=ws)
def JO {w0:World} {M:Nat} {G:Lg} {f1 f3 nm:Nat} {C:Co} {W:World} {r:Int} (h:mx w0 M G f1 f3 nm (rdC C r) W) (tab:W.rangeAt 0 0 bV) (hz:0<W.heap.size) (hok:g9 C) (c:C.p=0/\0<=r) (hr:eE C.ho.bx r):hIm W G.P (dq (rdC C r)):=by
 have hn:¬ wrP C.ho.bx:=fun h=>by have:=(hok.s.2 h).1;omega
 obtain⟨hw,hb⟩:=It hr c.2 hn hok.h.bx.1;obtain⟨k,_,hk,ho,_,hx⟩:=Hg hr c.2 hn;have hT:(rdC C r).ho.bx=bA C.ho.bx r:=by unfold rdC;rw[zc c];rfl
 refine h.hIm tab hz (by rw[hT];exact hw) ?_;rw[hT];intro hk';have h1:=hb k hk;unfold cZ at h1;rw[zb hx] at h1;simp only[ho];exact h1.2.2.2
section
variable {w : World} {C : Co} {S : Sc} {N cu : Int} {ws : List Nat} {R : Nat} {w0 : World} {M : Nat} {G : Lg} {nm B : Nat} {o : Os} {V W : World}
def dvO.load (h:dvO w C S N cu ws R w0 M G nm B o V W) (E:ByteArray) (him:hIm W G.P E) :
  Calls Tp 370 #[pT (sQ ⟨R,0,nn⟩)] W fun q w'=>q = rT (.tuple #[])/\∃ o',dvO w C S (E.size:Int) cu (wl (lt E)) R w0 M G nm B o' V w':=by
 obtain⟨fe,fi,fr,fd,fl,hf1,hf2⟩:=him;have H0:=ah h;have HF1:=ah hf1;have HF2:=ah hf2;have y0:=h.p.r.cell 0 (pT (sQ ⟨M,0,nn⟩)) rfl;have x0:=h.p.m.m.cell 0 (pT (sQ ⟨G.P,0,nn⟩)) rfl;clear h hf1 hf2;go_enter Tryz.func370,Tryz.ntmps370;go_wp2_with fail;refine (HF1.o _ (bW _ _)).mono ?_;rintro ox w1 ⟨ao,m,c,rfl,hi1,hb1⟩;have H1:=ah (qH hi1 hb1);clear hi1 hb1 HF1 y0 x0;go_wp2_with fail;refine (HF2.o _ ao m c H1.o.2 H1.o.1).mono ?_;rintro ox w2 ⟨aw,nw,kw,rfl,ho2,hn2,hb2⟩;have H2:Hid (dvO w C S N cu ws R w0 M G nm B o V w2/\an w2 B (sL aw nw kw) (wl (lt E))/\nw=(wl (lt E)).length):=⟨(H0.o.below H1.o.2).below hb2,ho2.lower (by have:=H0.o.p.n.2.2.1;have:=H0.o.p.r.lt;have:=H1.o.2.size;omega),hn2⟩
 clear ho2 hn2 hb2 H0 H1 HF2;go_wp2_with (refine QE (P:=Tp) rfl 52 _ _ rfl R 12 #[I J (E.size:Int),sL aw nw kw] rfl rfl (H2.o.1.p.r.there 12 2 (by rw[uO];decide)) (Dh _ _ _ _) (CB _ _ _ _) ?_;generalize hW3:World.setCells w2 R 12 _=w3;have HW3:Hid (_=w3):=hW3;clear hW3);have H3:Hid (∃ o',dvO w C S (E.size:Int) cu (wl (lt E)) R w0 M G nm B o' V w3):=by
  have e3:w2.setCells R 12 [I J (E.size:Int),sL aw nw kw]=w3:=HW3.o;rw[<- e3];exact⟨⟨o.s,o.a,o.n,o.k,aw,nw,kw⟩,H2.o.1.put 12 _ (Ig H2.o.1.p.r) H2.o.1.p.d H2.o.1.p.dn H2.o.2.1 H2.o.2.2⟩
 first | go_end0 | (try simp only[Exit.inBlock,Exit.then]);refine bN ?_
 exact⟨rfl,H3.o⟩
def dvO.drive (h:dvO w C S N cu ws R w0 M G nm B o V W) (tab:w.rangeAt 0 0 bV) (hz:0<w.heap.size) (hok:vf C S N cu ws) (hs:∀ x ∈ ws,x<18446744073709551616) (hw:ws.length<=1048576) (r:Int) (hr:eE C.ho.bx r) (T:Co) (S':Sc) (N':Int) (ws':List Nat) (eT:T=rdC C r) (hd:odP C S N ws r T S' N' ws') :
  Calls Tp 369 #[pT (sQ ⟨R,0,nn⟩)] W fun q w'=>q = rT (I J (olZ T S' cu ws'))/\∃ o',dvO w T S' N' cu ws' R w0 M G nm B o' V w':=by
 obtain⟨b1,b2⟩:=Gy hok hr eT hd hw;have hs':∀ x ∈ ws',x<18446744073709551616:=by
  rcases hd with⟨_,_,_,_,e⟩|⟨_,_,_,e⟩
  .rw[e];exact kE _
  .rw[e];exact hs
 have HL:Hid (∀ X o',dvO w T S' N' cu ws' R w0 M G nm B o' V X->Calls Tp 371 #[pT (sQ ⟨R,0,nn⟩)] X fun q w'=>q = rT (I J (olZ T S' cu ws'))/\∃ o',dvO w T S' N' cu ws' R w0 M G nm B o' V w'):=fun X o' hX=>(hX.p.level hs' b2 b1).mono fun q w' ⟨h1,h2⟩=>⟨h1,o',hX.below h2⟩
 generalize olZ T S' cu ws'=lv at *;have y0:=h.p.r.cell 0 (pT (sQ ⟨M,0,nn⟩)) rfl;have HB:=ah ((mr.new h.p.m).begin_any hok.c r hr);have H0:=ah h
 have HI:Hid (C.p=0/\0<=r->∀ X S1 N1 ws1 o1,dvO w T S1 N1 cu ws1 R w0 M G nm B o1 V X->hIm X G.P (dq T)):=fun c X S1 N1 ws1 o1 hX=>by
  have hb:=hX.p.b;have hm:=hX.p.m;rw[eT] at hm ⊢;exact JO hm (fun j v hv=>(hb.cell (p:=⟨0,0+j,nn⟩) (by exact hz)).trans (tab j v hv)) (nL hz hb.size) hok.c c hr
 have HD:=ah hd;have HET:=ah eT;clear h tab hz hok hs hw hr hd b1 b2 hs' eT;go_enter Tryz.func369,Tryz.ntmps369;go_wp2_with fail;refine HB.o.mono ?_;rintro ox w1 ⟨b,rfl,hb,h1⟩;rw[<- HET.o] at h1;have H1:=ah (H0.o.mr h1);have HBB:=ah hb;clear h1 hb HB y0 H0;cases b
 .have H2:Hid (dvO w T S' N' cu ws' R w0 M G nm B o V w1):=by
   rcases HD.o with⟨e1,e2,_⟩|⟨_,rfl,rfl,rfl⟩
   .exact Qz (HBB.o.2 ⟨e1,e2⟩) (by decide)
   .exact H1.o
  clear H1 HD HBB HI;go_wp2_with fail;refine (HL.o _ _ H2.o).mono ?_;rintro ox w2 ⟨rfl,h2⟩;have H3:=ah h2;clear h2 HL H2;go_wp2_with fail;go_ret;exact⟨rfl,H3.o⟩
 .have hc:=HBB.o.1 rfl;have HC:=ah hc;have HE:Hid (S'=sc0/\N'=((dq T).size:Int)/\ws'=wl (lt (dq T))):=by
   rcases HD.o with⟨_,_,e⟩|⟨e,_⟩
   .exact e
   .exact Qz hc e
  clear hc HD HBB;go_wp2_with fail;refine (my w1).mono ?_;rintro ox w2 ⟨rfl,hb2⟩;have H2:=ah (H1.o.below hb2);clear hb2 H1;go_wp2_with (refine QE (P:=Tp) rfl 49 _ _ rfl R 1 (scL sc0 nn 0 0).toArray rfl rfl (H2.o.p.r.there 1 11 (by rw[uO];decide)) dV (iO _ _ _ _) ?_;generalize hW3:World.setCells w2 R 1 _=w3;have HW3:Hid (_=w3):=hW3;clear hW3);have H3:Hid (dvO w T sc0 N cu ws R w0 M G nm B ⟨o.s,nn,0,0,o.aw,o.nw,o.kw⟩ V w3):=by
   have e3:w2.setCells R 1 (scL sc0 nn 0 0)=w3:=HW3.o;rw[<- e3];exact H2.o.put 1 _ (Hq H2.o.p.r) (gc _ _) rfl H2.o.p.x H2.o.p.xn
  clear HW3 H2;refine (H3.o.load (dq T) (HI.o HC.o _ _ _ _ _ H3.o)).mono ?_;rintro ox w4 ⟨rfl,o4,h4⟩;have H4:Hid (dvO w T S' N' cu ws' R w0 M G nm B o4 V w4):=by
   obtain⟨e1,e2,e3⟩:=HE.o;rw[e1,e2,e3];exact h4
  clear h4 H3 HI HE HC;go_wp2_with fail;refine (HL.o _ _ H4.o).mono ?_;rintro ox w5 ⟨rfl,h5⟩;have H5:=ah h5;clear h5 HL H4;go_wp2_with fail;go_ret;exact⟨rfl,H5.o⟩
end
def Gq (C:Co) (S:Sc) (N cu:Int) (ws:List Nat) (r:Int) (T:Co) (S':Sc) (N' cu':Int) (ws':List Nat) (lv:Int):Prop:=
 (vf C S N cu ws/\T=rdC C r/\cu'=cu/\lv=olZ T S' cu' ws'/\((C.p=0/\0<=r/\S'=sc0/\N'=((dq T).size:Int)/\ws'=wl (lt (dq T)))\/(¬ (C.p=0/\0<=r)/\S'=S/\N'=N/\ws'=ws)))\/(¬ vf C S N cu ws/\T=zCo/\S'=scZ/\N'=0/\cu'=0/\ws'=[]/\lv=1)
def JS (w:World) (C:Co) (S:Sc) (N cu:Int) (ws:List Nat) (q:Os) (r:Int) (h:eN w C S ws q) (hn:C.ho.le 1048576) (hs:S.l.length<=1048576) (hw:ws.length<=1048576) (hr:eE C.ho.bx r) :
  Calls Tp 15 #[aG (opL C S N cu q).toArray] w fun o w'=>∃ T S' N' cu' ws' lv q',o = rT (.tuple #[aG (opL T S' N' cu' q').toArray,I J lv])/\Gq C S N cu ws r T S' N' cu' ws' lv/\eN w' T S' ws' q'/\Bl w w':=by
 have H0:Hid (dG w C S N cu q none (fun _=>True) (fun _=>True) ((w.alloc (.cells (opL C S N cu q).toArray 54)).alloc (.cells Z35.toArray 54))):=by
  refine⟨(opV.new w C S N cu q).below qw,?_,fun p e=>(by cases e),fun _ _=>trivial⟩;have:=blk.new (w.alloc (.cells (opL C S N cu q).toArray 54)) Z35 54;simpa using this
 obtain⟨v0,hv0⟩ : ∃ v0,v0=(w.alloc (.cells (opL C S N cu q).toArray 54)).alloc (.cells Z35.toArray 54):=⟨_,rfl⟩
 rw[<- hv0] at H0;have HOK:=ah (JX v0 C S N cu ws q (h.below H0.o.x.b) hn hs hw);have HO:=ah h;have HW:=ah hw;have HS:=ah hs;have HBR:=ah hr;have HC1:Hid (∀ V,opV w C S N cu q V->Calls Tp 20 #[aG (coL C q.s).toArray] V fun o w'=>∃ s' T0 T1 T2 B,o = rT (aG (coL C s').toArray)/\spS B T0 T1 T2 C.ho s' w'/\B=V.heap.size+2/\Bl V w'):=fun V hV=>(tj V C q.s (h.h.below hV.b) hn).mono (by rintro o w' ⟨s',T0,T1,T2,rfl,q1,_,_,q2⟩;exact⟨s',T0,T1,T2,_,rfl,q1,rfl,q2⟩);have HC2:Hid (∀ V,opV w C S N cu q V->Calls Tp 22 #[aG (scL S q.a q.n q.k).toArray] V fun o w'=>∃ a k,o = rT (aG (scL S a q.n k).toArray)/\iB w' a q.n k S.l/\Bl V w'):=fun V hV=>(iV V S q.a q.n q.k (h.d.below hV.b) (by have:=h.d.len;omega)).mono (by rintro o w' ⟨g,k,rfl,q1,q2⟩;exact⟨_,k,rfl,q1.is h.d.small,q2⟩);clear h hn hs hw hr;go_enter Tryz.func15,Tryz.ntmps15;go_upto_region 1 with fail
 change Code.wp _ _ _ _ ((w.alloc (.cells (opL C S N cu q).toArray 54)).alloc (.cells Z35.toArray 54));rw[<- hv0];clear hv0;go_wp2_with (refine qG 54 H0.o.x.p.load Tryz.underlying54 (eD _ _ _ _ _) ?_);refine HOK.o.mono ?_;rintro o w1 ⟨⟨b,rfl,hb⟩,hb1⟩;have H1:=ah (H0.o.below hb1);have HB:=ah hb;clear hb hb1 H0 HOK;cases b
 .go_wp2_with (refine QE (P:=Tp) rfl 54 _ _ rfl (w.heap.size+1) 0 Z35.toArray rfl rfl (H1.o.y.there 0 _ (by decide)) (fO zCo scZ 0 0 zOs) (ey zCo scZ 0 0 zOs) ?_;generalize hW8:World.setCells _ (w.heap.size+1) 0 _=w8;have HW8:Hid (_=w8):=hW8;clear hW8)
  have e8:=HW8.o;have hF:blk w8 (w.heap.size+1) Z35 54:=by rw[<- e8];exact H1.o.y.put [] Z35 [] Z35 rfl
  have hL:=QJ (P:=Tp) w8 (w.heap.size+1) 0 54 _ _ hF.load Tryz.underlying54 rfl (eD zCo scZ 0 0 zOs);refine QF (v:=.tuple #[aG Z35.toArray,I J 1]) (dY Tryz.results15 _ w8 (w.heap.size+1) _ rfl hL) rfl ?_;refine⟨zCo,scZ,0,0,[],1,zOs,by rw[Cs],qy ⟨fun x=>(by have:=HB.o.2 x;cases this),rfl,rfl,rfl,rfl,rfl,rfl⟩,xB _,?_⟩;rw[<- e8];exact sW om 0 _ H1.o.x.b
 have hok:vf C S N cu ws:=HB.o.1 rfl;have HOK:=ah hok;obtain⟨E,uE,oE,zE,nE,wE⟩:=Ka hok
 have HC3:Hid (∀ V,opV w C S N cu q V->Calls Tp 41 #[pkV N q.aw q.nw q.kw] V fun o w'=>o = rT (.string E)/\Bl V w'):=fun V hV=>by
  have:=Gw V N q.aw q.nw q.kw ws (HO.o.w.below hV.b);rw[uE] at this;exact this
 have HC4:Hid (∀ V,Calls Tp 23 #[.string E] V fun o w'=>∃ ao n cap,o = rT (pkV N ao n cap)/\bP w' ao n cap ws/\Bl V w'):=fun V=>(py E V oE zE).mono (by
  rintro o w' ⟨ao,cap,rfl,q1,q2⟩;rw[EH,<- wE] at q1
  have hl:(E.size+63) / 64=ws.length:=by rw[wE,dT,ba]
  exact⟨ao,_,cap,by rw[nE],q1.words hl (by rw[wE];exact kE _) (q1.cap hl),q2⟩)
 clear HB hok uE oE zE nE wE;go_upto_region 3 with fail
 go_cut [4] (fun x wx=>∃ P B T0 T1 T2 o,x = pT (some ⟨P,0,none⟩)/\gO w B T0 T1 T2 P C S N cu ws o wx);case first=>
  refine QK (S:=fun X=>opV w C S N cu q X) kr ?_;have HU:Hid (dG w C S N cu q none (fun _=>True) (fun _=>True) w1.drew):=H1.o.below (bW _ _).drew;have hS:opV w C S N cu q w1.drew:=HU.o.x;clear H1;refine tk 0 ?_;refine tk 3 ?_;refine tk 6 ?_;refine tk 10 ?_;refine wU 1 (aG (coL C q.s).toArray) rfl (QM (by rfl) 43 (.tmp 10) rfl w.heap.size 0 rfl (coL C q.s) _ (fun X h=>ku h.p) Tryz.underlying43 rfl (cy C q.s)) hS ?_;simp only[aZ];refine wU 4 (aG (scL S q.a q.n q.k).toArray) rfl (QM (by rfl) 49 (.tmp 13) rfl w.heap.size 21 rfl (scL S q.a q.n q.k) _ (fun X h=>kt h.p) Tryz.underlying49 rfl (kJ _ _ _ _)) hS ?_;simp only[aZ];refine wU 7 (pkV N q.aw q.nw q.kw) rfl (QM (by rfl) 52 (.tmp 16) rfl w.heap.size 32 rfl [I J N,sL q.aw q.nw q.kw] _ (fun X h=>od h.p) Tryz.underlying52 rfl (ur _ _ _ _)) hS ?_;simp only[aZ];refine tk 11 ?_ (hy:=fun W hW=>by (have y:=hW.p.cell 34 (I J cu) rfl;go_simp;try rfl));refine wpAnyH_ready (rs:=[2,13]) kr pQ (Q9 rfl (fun K hK=>?_) (Q9 rfl (fun K hK=>?_) za));rotate_left
  go_simp;have U7:=HU.o.al (trivial);refine hK.out _ _ U7.x (fun _=>?_);clear hK K HU hS;have HU:Hid (dG _ _ _ _ _ _ _ _ _ _):=U7;have hS:=U7.x;clear U7;refine al 2 fun K hK=>?_;rotate_left
  all_goals
   go_simp;refine (HC1.o _ hS).mono ?_;rintro o w2 ⟨s2,T0,T1,T2,B,rfl,q1,q2,b7⟩;have U7:=HU.o.add (K':=fun p=>T2<=p\/p<B) (D:=fun V=>spS B T0 T1 T2 C.ho s2 V/\w.heap.size+2<=B) b7 (fun p hp _=>qy (by have:=q2;omega)) (fun V hV=>⟨q1.below hV,by have:=q2;have:=HU.o.y.lt;omega⟩);go_wp2_with fail;refine hK.out _ _ U7.x (fun _=>?_);clear hK K HU hS b7 q1 q2;have HU:Hid (dG _ _ _ _ _ _ _ _ _ _):=U7;have hS:=U7.x;clear U7
  refine wpAnyH_ready (rs:=[5,13]) kr pQ (Q9 rfl (fun K hK=>?_) (Q9 rfl (fun K hK=>?_) za));rotate_left
  go_simp;have U7:=HU.o.al (qr (by have:=((HU.o.a _ (bW _ _)).2.1).o;omega));refine hK.out _ _ U7.x (fun _=>?_);clear hK K HU hS;have HU:Hid (dG _ _ _ _ _ _ _ _ _ _):=U7;have hS:=U7.x;clear U7;refine al 5 fun K hK=>?_;rotate_left
  refine al 5 fun K hK=>?_;rotate_left
  all_goals
   go_simp;refine (HC2.o _ hS).mono ?_;rintro o w3 ⟨a3,k3,rfl,q1,b7⟩;have U7:=HU.o.add (K':=fun p=>T2<=p\/p<B) (D:=fun V=>iB V a3 q.n k3 S.l) b7 (fun p _ h=>h) (fun V hV=>q1.below hV);go_wp2_with fail;refine hK.out _ _ U7.x (fun _=>?_);clear hK K HU hS b7 q1;have HU:Hid (dG _ _ _ _ _ _ _ _ _ _):=U7;have hS:=U7.x;clear U7
  refine wpAnyH_ready (rs:=[8,13]) kr pQ (Q9 rfl (fun K hK=>?_) (Q9 rfl (fun K hK=>?_) za));rotate_left
  go_simp;have U7:=HU.o.al (qr (by have:=((HU.o.a _ (bW _ _)).1.2.1).o;omega));refine hK.out _ _ U7.x (fun _=>?_);clear hK K HU hS;have HU:Hid (dG _ _ _ _ _ _ _ _ _ _):=U7;have hS:=U7.x;clear U7;refine al 8 fun K hK=>?_;rotate_left
  refine al 8 fun K hK=>?_;rotate_left
  refine al 8 fun K hK=>?_;rotate_left
  all_goals
   go_simp;refine (HC3.o _ hS).mono ?_;rintro o w4 ⟨rfl,b7⟩;have U7:=HU.o.add (K':=fun p=>T2<=p\/p<B) (D:=fun V=>True) b7 (fun p _ h=>h) (fun V hV=>trivial);go_wp2_with fail;refine hK.out _ _ U7.x (fun _=>?_);clear hK K HU hS b7;have HU:Hid (dG _ _ _ _ _ _ _ _ _ _):=U7;have hS:=U7.x;clear U7
  refine wpAnyH_ready (rs:=[9,13]) kr pQ (Q9 rfl (fun K hK=>?_) (Q9 rfl (fun K hK=>?_) za));rotate_left
  go_simp;have U7:=HU.o.al (qr (by have:=((HU.o.a _ (bW _ _)).1.1.2.1).o;omega));refine hK.out _ _ U7.x (fun _=>?_);clear hK K HU hS;have HU:Hid (dG _ _ _ _ _ _ _ _ _ _):=U7;have hS:=U7.x;clear U7;refine al 9 fun K hK=>?_;rotate_left
  refine al 9 fun K hK=>?_;rotate_left
  refine al 9 fun K hK=>?_;rotate_left
  refine al 9 fun K hK=>?_;rotate_left
  all_goals
   go_simp;refine (HC4.o _).mono ?_;rintro o w5 ⟨a5,n5,k5,rfl,q1,b7⟩;have U7:=HU.o.add (K':=fun p=>T2<=p\/p<B) (D:=fun V=>bP V a5 n5 k5 ws) b7 (fun p _ h=>h) (fun V hV=>q1.below hV);go_wp2_with fail;refine hK.out _ _ U7.x (fun _=>?_);clear hK K HU hS b7 q1;have HU:Hid (dG _ _ _ _ _ _ _ _ _ _):=U7;have hS:=U7.x;clear U7
  all_goals
   refine tk 12 ?_ (v:=aG (opL C S N cu ⟨s2,a3,q.n,k3,a5,n5,k5⟩).toArray) (hy:=fun W hW=>by kernel_rfl)
  refine al 13 fun K hK=>?_;go_simp;have U7:=HU.o.al (qr (by have:=((HU.o.a _ (bW _ _)).1.1.1.2.1).o;omega));refine hK.out _ _ U7.x (fun _=>?_);clear hK K HU hS;have HU:Hid (dG _ _ _ _ _ _ _ _ _ _):=U7;have hS:=U7.x;clear U7;all_goals
   have hA:=HU.o.a _ (bW _ _);have hp:=HU.o.p _ rfl;have hG:=HU.o.go (o:=⟨s2,a3,q.n,k3,a5,n5,k5⟩) hA.1.1.1.2.1 hA.1.1.2 hA.2 hA.1.1.1.2.2;refine al 14 fun K hK=>?_;rw[zc (by rfl)];refine QU 54 (.tmp 4) (.tmp 22) rfl _ 0 _ rfl rfl (hp.1.there 0 35 (nR _)) (fO _ _ _ _ _) (ey _ _ _ _ _) ?_;simp only[Act.put,aD,aE,aF];refine hK.out _ _ hG.2 (fun _=>?_);have HG:=ah hG.1;clear hK K HU hS hG hA hp;refine QI kr ?_ _;go_wp2_with fail;go_meet;case rel=>exact⟨_,B,T0,T1,T2,_,rfl,HG.o⟩
 case rest=>
  obtain⟨P,B,T0,T1,T2,o,rfl,hg⟩:=hcut;have HG:Hid (gO w B T0 T1 T2 P C S N cu ws o wc):=hg;have hn8:C.ho.bx.length<=8:=HOK.o.c.h.n2;have hn2:o.s.n2<=8:=by have:=hg.h.n2;omega
  have HN8:=ah hn8;clear hg HC1 HC2 HC3 HC4 H1 hn8;go_wp2_with (refine qG 41 (Iv HG.o.p) Tryz.underlying41 (px C.ho o.s) ?_);refine (Ij wc C.ho o.s HG.o.h.is.bx hn2).mono ?_;rintro ox w2 ⟨r2,rfl,hr2,hb2⟩;have er:r2=r:=GK hr2 HBR.o;have H2:=ah (HG.o.below hb2);rw[er];clear hr2 hb2 er HG;have y0:=H2.o.p.cell 0 (I J C.p) rfl;obtain⟨bb,HBB⟩ : ∃ bb:Bool,Hid (((C.p == 0) && decide (0<=r))=bb):=⟨_,rfl⟩
  go_upto_region 5 with fail
  go_cut [34] (fun x wx=>x = bO bb/\wx=w2);case first=>
   cases q0:(C.p == 0)
   .have HF:Hid (false=bb):=by show _=_;rw[<- HBB.o,q0];rfl
    go_wp2_with fail;go_meet;case rel=>exact⟨by rw[HF.o],rfl⟩
   cases g0:decide (0<=r)
   .have HF:Hid (false=bb):=by show _=_;rw[<- HBB.o,q0,g0];rfl
    go_wp2_with fail;go_meet;case rel=>exact⟨by rw[HF.o],rfl⟩
   .have HF:Hid (true=bb):=by show _=_;rw[<- HBB.o,q0,g0];rfl
    go_wp2_with fail;go_meet;case rel=>exact⟨by rw[HF.o],rfl⟩
  case rest=>
  obtain⟨rfl,rfl⟩:=hcut;clear y0;go_upto_if 34 with fail
  go_cut [] (fun wx=>Hid (∃ T S' N' ws' o',gO w B T0 T1 T2 P T S' N' cu ws' o' wx/\T=rdC C r/\((C.p=0/\0<=r/\S'=sc0/\N'=((dq T).size:Int)/\ws'=wl (lt (dq T)))\/(¬ (C.p=0/\0<=r)/\S'=S/\N'=N/\ws'=ws))));case first=>
   cases bb
   .have hne:¬ (C.p=0/\0<=r):=fun e=>by
     have:=HBB.o;rw[e.1,qE e.2] at this;cases this
    have HF:Hid (∃ T S' N' ws' o',gO w B T0 T1 T2 P T S' N' cu ws' o' wc/\T=rdC C r/\((C.p=0/\0<=r/\S'=sc0/\N'=((dq T).size:Int)/\ws'=wl (lt (dq T)))\/(¬ (C.p=0/\0<=r)/\S'=S/\N'=N/\ws'=ws))):=⟨C,S,N,ws,o,H2.o,by unfold rdC;rw[zb hne],qy ⟨hne,rfl,rfl,rfl⟩⟩
    clear hne;go_wp2_with fail;go_meet;case rel=>exact HF
   have hpr:C.p=0/\0<=r:=by
    have:=HBB.o;rw[qx] at this;exact⟨by simpa using this.1,qP this.2⟩
   obtain⟨hbr,hsz⟩:=HOK.o.i (by rw[hpr.1];decide);obtain⟨k,ek,hk,hI,z4,z5,z1⟩:=Iz HOK.o.c hpr.1 HBR.o hpr.2;have HPR:=ah hpr;have HI:=ah hI;have HEK:=ah ek;have HZ4:=ah z4;have HZ5:=ah z5;have HTC:Hid (rdC C r = { C with p:=1,tx:=true,ho:=dk C.ho r }):=by show _=_;unfold rdC;rw[zc hpr]
   have HSL:Hid (S.l=[]/\ws=[]):=⟨by rw[hsz],hbr.2.1⟩
   have HK:Hid (k<(bA C.ho.bx r).length):=hk;clear hpr hbr hsz ek hI z4 z5 z1;go_wp2_with (refine qG 41 (Iv H2.o.p) Tryz.underlying41 (px C.ho o.s) ?_);refine (Jo _ C.ho o.s r B T0 T1 T2 H2.o.h (by have:=HN8.o;omega)).mono ?_;rintro ox w3 ⟨rfl,hs3,hk3,hb3⟩;have H3:=ah (H2.o.take hs3 hk3 hb3 HSL.o.1 HSL.o.2);clear hs3 hk3 hb3 H2;go_upto_region 7 with (refine QE (P:=Tp) rfl 41 _ _ rfl P 11 (hoL C.ho o.s).toArray rfl rfl (H3.o.p.there 11 10 (by rw[uL];decide)) (Cw C.ho o.s) (oC C.ho o.s) ?_;generalize hW4:World.setCells _ P 11 _=w4;have HW4:Hid (_=w4):=hW4;clear hW4)
   have H4:Hid (gO w B T0 T1 T2 P { C with ho:=dk C.ho r } S N cu ws o w4):=by
    have e:w3.setCells P 11 (hoL C.ho o.s)=w4:=HW4.o;rw[<- e];exact H3.o.put (Hn H3.o.p) (fun q hq=>sO P q hq _ _ _) (sZ _ _ _ _) (sW (by have:=H3.o.n;omega) _ _ H3.o.b) H3.o.h H3.o.d H3.o.x
   clear HW4 H3;have y0:=H4.o.p.cell 0 (I J C.p) rfl;have f0:=H4.o.p.free 0;go_upto_region 8 with fail
   have H5:Hid (gO w B T0 T1 T2 P { C with p:=1,ho:=dk C.ho r } S N cu ws o (w4.setCell ⟨P,0,none⟩ (I J 1))):=H4.o.put (H4.o.p.set 0 (I J 1)) (fun q hq=>QB _ _ _ _ hq) pQ (H4.o.b.setCell (by have:=H4.o.n;show _<=P;omega) _) H4.o.h H4.o.d H4.o.x;generalize w4.setCell ⟨P,0,none⟩ (I J 1)=w5 at *;clear y0 f0 H4;have y6:=H5.o.p.cell 6 (bO C.tx) rfl;have f6:=H5.o.p.free 6;go_upto_region 9 with fail
   have H6:Hid (gO w B T0 T1 T2 P { C with p:=1,tx:=true,ho:=dk C.ho r } S N cu ws o (w5.setCell ⟨P,6,none⟩ (bO true))):=H5.o.put (H5.o.p.set 6 (bO true)) (fun q hq=>QB _ _ _ _ hq) pQ (H5.o.b.setCell (by have:=H5.o.n;show _<=P;omega) _) H5.o.h H5.o.d H5.o.x;generalize w5.setCell ⟨P,6,none⟩ (bO true)=w6 at *;clear y6 f6 H5;rw[<- HTC.o] at H6;have hTB:(rdC C r).ho.bx=bA C.ho.bx r:=by rw[HTC.o];rfl
   obtain⟨gb,off,ea,hc⟩:=H6.o.h.is.bx.cells (by rw[hTB];intro e;rw[e] at hk;cases hk);have hk2:k<(rdC C r).ho.bx.length:=by rw[hTB];exact hk
   obtain⟨ao,m,c,q8⟩:=hc k hk2;have hbl:=H6.o.h.is.bx.len;have hbc:=H6.o.h.is.bx.cap;have hkn:k<o.s.n2:=om
   have HRG:Hid (w6.rangeAt gb (off+k*8+3) [bO (rdC C r).ho.bx[k].e,I .u32 ((rdC C r).ho.bx[k].i:Int),bO (rdC C r).ho.bx[k].r,I J (rdC C r).ho.bx[k].d,sL ao m c]):=fun j v hv=>by
    have:=q8.rg (j+3) v (by simpa using hv);rw[show off+k*8+3+j=off+k*8+(j+3) by omega];exact this
   have HDT:Hid (iB w6 ao m c (rdC C r).ho.bx[k].l):=q8.dat;have HIM:Hid (eV (rdC C r).ho.bx[k].e (rdC C r).ho.bx[k].i (rdC C r).ho.bx[k].r (rdC C r).ho.bx[k].d m (rdC C r).ho.bx[k].l=dq (rdC C r)):=by
    show _=_;rw[HI.o,q8.dat.len];simp only[hTB]
   have y16:=H6.o.p.cell 16 (sL o.s.a2 o.s.n2 o.s.k2) rfl;rw[ea] at y16;clear q8 hc ea hTB hbl;generalize (rdC C r).ho.bx[k]=bx at *;clear hk2;obtain⟨bxx,byy,bzz,be,bi,br,bd,bl⟩:=bx;simp only[] at HRG HDT HIM;have HRG:Hid (w6.rangeAt gb (off+k*8+3) [bO be,I .u32 (bi:Int),bO br,I J bd,sL ao m c]):=HRG;rw[HEK.o];go_wp2_with (refine qG 47 HRG.o Tryz.underlying47 jc ?_);refine (kM _ be bi br bd ao m c bl HDT.o).mono ?_;rintro ox w7 ⟨rfl,hb7⟩;have H7:=ah (H6.o.below hb7);rw[show eV be bi br bd m bl=dq (rdC C r) from HIM.o];clear hb7 H6 HRG HDT HIM y16;go_wp2_with fail;refine (py _ w7 HZ4.o HZ5.o).mono ?_;rintro ox w8 ⟨ao8,cap8,rfl,q8,hb8⟩;rw[EH] at q8;have H8:Hid (gO w B T0 T1 T2 P (rdC C r) S N cu ws o w8/\bP w8 ao8 (((dq (rdC C r)).size+63) / 64) cap8 (wl (lt (dq (rdC C r))))):=⟨H7.o.below hb8,q8.words (by rw[dT,ba]) (kE _) (q8.cap (by rw[dT,ba]))⟩
   clear q8 hb8 H7;generalize ((dq (rdC C r)).size+63) / 64=n8 at *;go_upto_region 10 with (refine QE (P:=Tp) rfl 52 _ _ rfl P 32 #[I J ((dq (rdC C r)).size:Int),sL ao8 n8 cap8] rfl rfl (H8.o.1.p.there 32 2 (by rw[uL];decide)) (Dh _ _ _ _) (CB _ _ _ _) ?_;generalize hW9:World.setCells _ P 32 _=w9;have HW9:Hid (_=w9):=hW9;clear hW9)
   have H9:Hid (gO w B T0 T1 T2 P (rdC C r) S ((dq (rdC C r)).size:Int) cu (wl (lt (dq (rdC C r)))) ⟨o.s,o.a,o.n,o.k,ao8,n8,cap8⟩ w9):=by
    have e:w8.setCells P 32 [I J ((dq (rdC C r)).size:Int),sL ao8 n8 cap8]=w9:=HW9.o;rw[<- e];exact H8.o.1.put (Gx H8.o.1.p) (fun q hq=>sO P q hq _ _ _) (sZ _ _ _ _) (sW (by have:=H8.o.1.n;omega) _ _ H8.o.1.b) H8.o.1.h H8.o.1.d H8.o.2
   clear HW9 H8;go_wp2_with fail;refine (rf w9).mono ?_;rintro ox w10 ⟨rfl,hb10⟩;have H10:=ah (H9.o.below hb10);clear hb10 H9;have HTR:Hid (C.p=0/\0<=r):=HPR.o;go_wp2_with (refine QE (P:=Tp) rfl 49 _ _ rfl P 21 (scL sc0 none 0 0).toArray rfl rfl (H10.o.p.there 21 11 (by rw[uL];decide)) dV (iO _ _ _ _) ?_;generalize hW11:World.setCells _ P 21 _=w11;have HW11:Hid (_=w11):=hW11;clear hW11);have H11:Hid (gO w B T0 T1 T2 P (rdC C r) sc0 ((dq (rdC C r)).size:Int) cu (wl (lt (dq (rdC C r)))) ⟨o.s,none,0,0,ao8,n8,cap8⟩ w11):=by
    have e:w10.setCells P 21 (scL sc0 none 0 0)=w11:=HW11.o;rw[<- e];exact H10.o.put (Gp H10.o.p) (fun q hq=>sO P q hq _ _ _) (sZ _ _ _ _) (sW (by have:=H10.o.n;omega) _ _ H10.o.b) H10.o.h ⟨rfl,nR _,by simp[sc0],fun h=>Qz rfl h⟩ H10.o.x
   rw[<- HEK.o];go_meet;case rel=>exact⟨_,_,_,_,_,H11.o,rfl,qr ⟨HTR.o.1,HTR.o.2,rfl,rfl,rfl⟩⟩
  case rest=>
   obtain⟨T,S',N',ws',o',hg,eT,hd⟩:=hcut.o;have HBN:=ah (Gy HOK.o HBR.o eT hd HW.o);have HR:Hid (Gq C S N cu ws r T S' N' cu ws' (olZ T S' cu ws')):=qr ⟨HOK.o,eT,rfl,rfl,hd⟩;clear hcut H2 eT hd;go_upto_region 11 with fail
   refine QK (S:=fun X=>blk X P (opL T S' N' cu o') 54) kr ?_;have HU:Hid (gO w B T0 T1 T2 P T S' N' cu ws' o' wc.drew):=hg.below (bW _ _).drew;have hS:blk wc.drew P (opL T S' N' cu o') 54:=HU.o.p;clear hg;refine wU 0 (aG (opL T S' N' cu o').toArray) rfl (QM (by rfl) 54 (.tmp 4) rfl P 0 rfl (opL T S' N' cu o') _ (fun X h=>h.load) Tryz.underlying54 rfl (eD _ _ _ _ _)) hS ?_;simp only[aZ];refine wU 1 (aG (opL T S' N' cu o').toArray) rfl (QM (by rfl) 54 (.tmp 4) rfl P 0 rfl (opL T S' N' cu o') _ (fun X h=>h.load) Tryz.underlying54 rfl (eD _ _ _ _ _)) hS ?_;simp only[aZ];refine al 2 fun K hK=>?_;go_simp;refine (JG _ T S' N' cu ws' o' HU.o.is HBN.o.2 HBN.o.1).mono ?_;rintro ox w12 ⟨rfl,hb12⟩;have U7:=HU.o.below hb12;go_wp2_with fail;refine hK.out _ _ U7.p (fun _=>?_);clear hK K HU hS hb12;have HU:=ah U7;have hS:=U7.p;clear U7;refine al 3 fun K hK=>?_;rw[zc (by rfl)];refine QU 54 (.tmp 2) (.tmp 59) rfl (w.heap.size+1) 0 _ rfl rfl (HU.o.y.there 0 35 (nR _)) (fO _ _ _ _ _) (ey _ _ _ _ _) ?_;simp only[Act.put,aD,aE,aF];refine hK.out _ _ (hS.other (by have:=HU.o.n;omega) _ _) (fun hS3=>?_);have u8:∀ j,Value.int .u8 j ∉ Z35:=by rw[<- Cs];exact GR _ _ _ _ _
   have u64:∀ j,Value.int .u64 j ∉ Z35:=by rw[<- Cs];exact GS _ _ _ _ _
   have hV:∀ q,q≠w.heap.size+1->(w12.setCells (w.heap.size+1) 0 (opL T S' N' cu o')).heap[q]?=w12.heap[q]?:=fun q hq=>sO _ q hq _ _ _;have HF:Hid (blk (w12.setCells (w.heap.size+1) 0 (opL T S' N' cu o')) (w.heap.size+1) (opL T S' N' cu o') 54/\eN (w12.setCells (w.heap.size+1) 0 (opL T S' N' cu o')) T S' ws' o'/\Bl w (w12.setCells (w.heap.size+1) 0 (opL T S' N' cu o'))):=⟨HU.o.y.put [] Z35 [] (opL T S' N' cu o') rfl,⟨(HU.o.h.far54 HU.o.y (qy (by have:=HU.o.n;omega)) u8 hV (sZ _ _ _ _)).is,HU.o.d.farL HU.o.y u8 hV,HU.o.x.farL HU.o.y u64 hV⟩,sW om _ _ HU.o.b⟩
   clear hK K HU hS u8 u64 hV;generalize w12.setCells (w.heap.size+1) 0 (opL T S' N' cu o')=w13 at *;refine tk 4 ?_;refine QI kr ?_ _;go_wp2_with fail;have hL:=QJ (P:=Tp) w13 (w.heap.size+1) 0 54 _ _ HF.o.1.load Tryz.underlying54 rfl (eD T S' N' cu o');refine QF (v:=.tuple #[aG (opL T S' N' cu o').toArray,I J (olZ T S' cu ws')]) (dY Tryz.results15 _ w13 (w.heap.size+1) _ rfl hL) rfl ?_;exact⟨T,S',N',cu,ws',_,o',rfl,HR.o,HF.o.2.1,HF.o.2.2⟩
section
variable {w:World} {C:Co} {N cu:Int}
def Hr (w : World) (a : Addr) : (method 495 90 (pT (sQ a)) "loop.example/s01647/impl.drive").run Tp w = .ok (369, pT (sQ a)) w := by kernel_rfl
def J8 {b:Nat} {s:Sl} {S:Sc} {o:Os} {T:TypeId} (h:blk w b (acO C s S N cu o) T):w.rangeAt b 22 (opL C S N cu (osS o s)):=blk.loadAt Z22 (opL C S N cu (osS o s)) [] (by rw[Qw];exact h)
def JM {S:Sc} {ws:List Nat} {R:Nat} {w0:World} {M:Nat} {G:Lg} {nm B:Nat} {o:Os} {W:World} (h:opO w C S N cu ws R w0 M G nm B o W) (T:Co) (S':Sc) (N':Int) (ws':List Nat) (lv:Int)
  (hdr:∀ X,opO w C S N cu ws R w0 M G nm B o X->Calls Tp 369 #[pT (sQ ⟨R,0,nn⟩)] X fun q w'=>q = rT (I J lv)/\∃ o',dvO w T S' N' cu ws' R w0 M G nm B o' X w') :
  Calls Tp 50 #[.iface 90 (pT (sQ ⟨R,0,nn⟩))] W fun q w'=>∃ s' o',q = rT (.tuple #[aG (acO T s' S' N' cu o').toArray,I J lv])/\yA B T S' ws' (osS o' s') w'/\Bl w w':=by
 have HA:Hid (Bl W (W.alloc (.cells Z57.toArray 88))/\blk (W.alloc (.cells Z57.toArray 88)) W.heap.size Z57 88):=⟨qw,blk.new W _ 88⟩
 have HD:=ah (hdr _ (h.below HA.o.1));have HL:Hid (M<W.heap.size/\G.gb<W.heap.size/\R<W.heap.size/\B<=W.heap.size/\w.heap.size<=W.heap.size):=by
  have h1:=h.r.lt;obtain⟨⟨_,_,_,u4,_⟩,n2,n3,_⟩:=h.n;exact⟨om,om,h1,om,h.b.size⟩
 obtain⟨V0,hV0⟩ : ∃ V0,V0=W.alloc (.cells Z57.toArray 88):=⟨_,rfl⟩
 rw[<- hV0] at HA HD;have hm:=Hr V0 ⟨R,0,nn⟩;clear h hdr;go_enter Tryz.func50,Tryz.ntmps50;go_upto_region 1 with fail
 change Code.wp _ _ _ _ (W.alloc (.cells Z57.toArray 88));rw[<- hV0];clear hV0;go_wp2_with fail;refine HD.o.mono ?_;rintro ox w1 ⟨rfl,o1,h1⟩;have H1:=ah h1.p;have HZ:Hid (blk w1 W.heap.size Z57 88):=HA.o.2.kept (h1.k W.heap.size (by have:=HL.o;omega) (by have:=HL.o;omega) (by have:=HL.o;omega) HA.o.2.lt);have HC:=ah (xz w1 M R S' N' cu o1 T (tlQ T) (fun _ _ _ _ _ he h=>h.keep he) h1.p.r (fun X hX=>((h1.p.m.below hX).told).mono fun o w' h=>tlQ.told h));clear h1 HD hm HA;go_wp2_with fail;refine HC.o.mono ?_;rintro ox w2 ⟨s2,B2,T2,rfl,hq2,hB2,hT2,hb2⟩;have H2:Hid (opO w T S' N' cu ws' R w0 M G nm B o1 w2/\tlQ T B2 T2 s2 w2/\T2<=w2.heap.size/\W.heap.size<B2/\(∀ g,(Value.slice o1.a o1.n o1.k).ownBlock=sQ g->g<B2)/\∀ g,(Value.slice o1.aw o1.nw o1.kw).ownBlock=sQ g->g<B2):=⟨H1.o.below hb2,hq2,hT2,nL HZ.o.lt hB2,fun g hg=>nL (QC H1.o.d g hg).2 hB2,fun g hg=>nL (QC H1.o.x g hg).2 hB2⟩
 have HZ2:Hid (blk w2 W.heap.size Z57 88):=HZ.o.below hb2
 clear hq2 hB2 hT2 hb2 H1 HC HZ;go_wp2_with (refine QE (P:=Tp) rfl 88 _ _ rfl W.heap.size 0 (acO T s2 S' N' cu o1).toArray rfl rfl (HZ2.o.there 0 _ (by rw[qS,vr];decide)) Ez (Cn _ _ _ _ _ _) ?_;generalize hW8:World.setCells w2 W.heap.size 0 _=w8;have HW8:Hid (_=w8):=hW8;clear hW8)
 have e8:w2.setCells W.heap.size 0 (acO T s2 S' N' cu o1)=w8:=HW8.o;have hF:blk w8 W.heap.size (acO T s2 S' N' cu o1) 88:=by rw[<- e8];exact HZ2.o.put [] Z57 [] _ rfl
 have hL:=QJ (P:=Tp) w8 W.heap.size 0 88 _ _ hF.load Tryz.underlying88 rfl Ez;refine QF (dY Tryz.results50 _ w8 W.heap.size _ rfl hL) rfl ?_;have oth:∀ k,k≠W.heap.size->w8.heap[k]?=w2.heap[k]?:=fun k hk=>by rw[<- e8];exact sO _ k hk _ _ _
 have hsz:w8.heap.size=w2.heap.size:=by rw[<- e8,sZ]
 obtain⟨u1,u2,u3,u4,u5,u6⟩:=H2.o;obtain⟨l1,l2,l3,l4,l5⟩:=HL.o
 have hne:∀ (v:Value) (l:List Nat),aa w2 B v l->aa w8 B v l:=fun v l hv=>hv.otherBlock fun g hg=>oth g (fun e=>by
  obtain⟨c,fz,e1⟩:=hv.kind g hg
  have:=HZ2.o
  unfold blk at this
  rw[e,this] at e1
  injection e1 with e1
  injection e1 with _ e1 _
  exact Qz e1 (by decide))
 have hnw:∀ (v:Value) (l:List Nat),an w2 B v l->an w8 B v l:=fun v l hv=>hv.otherBlock fun g hg=>oth g (fun e=>by
  obtain⟨c,fz,e1⟩:=hv.kind g hg
  have:=HZ2.o
  unfold blk at this
  rw[e,this] at e1
  injection e1 with e1
  injection e1 with _ e1 _
  exact Qz e1 (by decide))
 refine⟨s2,o1,rfl,⟨hne _ _ u1.d,u1.dn,hnw _ _ u1.x,u1.xn,B2,T2,u2.keep fun k h1 _=>oth k om,om,by rw[hsz];exact u3,u5,u6⟩,?_⟩;rw[<- e8];exact sW l5 0 _ u1.b
def JZ (w:World) (tab:w.rangeAt 0 0 bV) (hz:0<w.heap.size) (C:Co) (S:Sc) (N cu:Int) (ws:List Nat) (q:Os) (h:eN w C S ws q) (hs:dz q.s) (ha:q.aw=nn\/∃ g,q.aw=sQ ⟨g,0,nn⟩) (hm:C.ho.le 1048576) (hl:S.l.length<=1048576) (hw:ws.length<=1048576) (r:Int) (hr:eE C.ho.bx r) (T:Co) (S':Sc) (N' cu':Int) (ws':List Nat) (lv:Int) (hR:Gq C S N cu ws r T S' N' cu' ws' lv) :
  Calls Tp 17 #[aG (opL C S N cu q).toArray] w fun o w'=>∃ q',o = rT (.tuple #[aG (opL T S' N' cu' q').toArray,I J lv])/\(vf C S N cu ws->yA w.heap.size T S' ws' q' w')/\(¬ vf C S N cu ws->q'=zOs)/\Bl w w':=by
 have H0:Hid (blk ((w.alloc (.cells (opL C S N cu q).toArray 54)).alloc (.cells Z35.toArray 54)) w.heap.size (opL C S N cu q) 54/\blk ((w.alloc (.cells (opL C S N cu q).toArray 54)).alloc (.cells Z35.toArray 54)) (w.heap.size+1) Z35 54/\Bl w ((w.alloc (.cells (opL C S N cu q).toArray 54)).alloc (.cells Z35.toArray 54))):=by
  refine⟨(blk.new w _ 54).alloc _,?_,qw.alloc pQ _⟩;have:=blk.new (w.alloc (.cells (opL C S N cu q).toArray 54)) Z35 54;simpa using this
 obtain⟨v0,hv0⟩ : ∃ v0,v0=(w.alloc (.cells (opL C S N cu q).toArray 54)).alloc (.cells Z35.toArray 54):=⟨_,rfl⟩
 rw[<- hv0] at H0;have hb0:=H0.o.2.2;have tab0:v0.rangeAt 0 0 bV:=fun j v hv=>(hb0.cell (p:=⟨0,0+j,nn⟩) (by exact hz)).trans (tab j v hv);have hz0:0<v0.heap.size:=nL hz hb0.size;have HO:=ah (Ie v0 C S N cu ws q (h.below hb0) hs ha hm hl hw tab0 hz0)
 have HDR:Hid (vf C S N cu ws->∀ R w0 M G nm B o W,opO v0 C S N cu ws R w0 M G nm B o W->Calls Tp 50 #[.iface 90 (pT (sQ ⟨R,0,nn⟩))] W fun q w'=>∃ s' o',q = rT (.tuple #[aG (acO T s' S' N' cu' o').toArray,I J lv])/\yA B T S' ws' (osS o' s') w'/\Bl v0 w'):=fun hok R w0 M G nm B o W hW=>by
  rcases hR with⟨_,eT,rfl,rfl,hd⟩|⟨hn,_⟩
  .exact JM hW T S' N' ws' _ fun X hX=>(dvO.now hX).drive tab0 hz0 hok h.w.small hw r hr T S' N' ws' eT hd
  .exact Qz hok hn
 have HNO:Hid (¬ vf C S N cu ws->T=zCo/\S'=scZ/\N'=0/\cu'=0/\ws'=[]/\lv=1):=fun hn=>by
  rcases hR with⟨k,_⟩|⟨_,k⟩
  .exact Qz k hn
  .exact k
 clear h hs ha hm hl hw hr hR tab hz tab0 hz0 hb0;go_enter Tryz.func17,Tryz.ntmps17;go_upto_region 1 with fail
 change Code.wp _ _ _ _ ((w.alloc (.cells (opL C S N cu q).toArray 54)).alloc (.cells Z35.toArray 54));rw[<- hv0];clear hv0;go_wp2_with (refine qG 54 H0.o.1.load Tryz.underlying54 (eD _ _ _ _ _) ?_);refine HO.o.mono ?_;rintro ox w1 ⟨p,b,rfl,hb,hR,hb1⟩;have HB:=ah hb;have HR:=ah hR;have HZ:Hid (blk w1 (w.heap.size+1) Z35 54/\Bl w w1):=⟨H0.o.2.1.below hb1,H0.o.2.2.trans (hb1.mono H0.o.2.2.size)⟩
 clear hb hR hb1 HO;cases b
 .have hno:¬ vf C S N cu ws:=fun x=>by have:=HB.o.2 x;cases this
  have HN:=ah hno;obtain⟨rfl,rfl,rfl,rfl,rfl,rfl⟩:=HNO.o hno
  clear HR HDR hno HNO HB;go_wp2_with (refine QE (P:=Tp) rfl 54 _ _ rfl (w.heap.size+1) 0 Z35.toArray rfl rfl (HZ.o.1.there 0 _ (by decide)) (fO zCo scZ 0 0 zOs) (ey zCo scZ 0 0 zOs) ?_;generalize hW8:World.setCells _ (w.heap.size+1) 0 _=w8;have HW8:Hid (_=w8):=hW8;clear hW8)
  have e8:=HW8.o;have hF:blk w8 (w.heap.size+1) Z35 54:=by rw[<- e8];exact HZ.o.1.put [] Z35 [] Z35 rfl
  have hL:=QJ (P:=Tp) w8 (w.heap.size+1) 0 54 _ _ hF.load Tryz.underlying54 rfl (eD zCo scZ 0 0 zOs);refine QF (v:=.tuple #[aG Z35.toArray,I J 1]) (dY Tryz.results17 _ w8 (w.heap.size+1) _ rfl hL) rfl ?_;refine⟨zOs,by rw[Cs],fun x=>Qz x HN.o,fun _=>rfl,?_⟩;rw[<- e8];exact sW om 0 _ HZ.o.2
 have hok:=HB.o.1 rfl;obtain⟨R,w0,M,G0,nm,B,o1,rfl,h1⟩:=HR.o rfl;have HOK:=ah hok;have HN1:Hid (w.heap.size+1<B):=by
  have:=H0.o.2.1.lt;have:=h1.n.2.2.2.2;show _<_;omega
 have HD:=ah (HDR.o hok R w0 M G0 nm B o1 w1 h1);clear HB HR hok h1 HDR HNO HZ;have hmk:(Instr.makeInterface 90 (pT (sQ ⟨R,0,nn⟩))).run Tp w1 = .ok (.iface 90 (pT (sQ ⟨R,0,nn⟩))) w1:=kr;go_wp2_with fail;refine HD.o.mono ?_;rintro ox w2 ⟨s2,o2,rfl,ho2,hb2⟩;have H2:Hid (yA B T S' ws' (osS o2 s2) w2):=ho2;have H3:Hid (Bl w (w2.alloc (.cells Z57.toArray 88))/\blk (w2.alloc (.cells Z57.toArray 88)) (w.heap.size+1) Z35 54/\blk (w2.alloc (.cells Z57.toArray 88)) w2.heap.size Z57 88/\w.heap.size+1<w2.heap.size):=by
  have hb:=H0.o.2.2.trans (hb2.mono H0.o.2.2.size);have hz:=H0.o.2.1.below hb2;exact⟨hb.alloc hb.size _,hz.alloc _,blk.new w2 _ 88,hz.lt⟩
 clear ho2 hb2 HD hmk H0;go_upto_region 5 with (refine QE (P:=Tp) rfl 88 _ _ rfl w2.heap.size 0 (acO T s2 S' N' cu' o2).toArray rfl rfl (H3.o.2.2.1.there 0 _ (by rw[qS,vr];decide)) Ez (Cn _ _ _ _ _ _) ?_;generalize hW4:World.setCells _ w2.heap.size 0 _=w4;have HW4:Hid (_=w4):=hW4;clear hW4)
 have H4:Hid (Bl w w4/\blk w4 (w.heap.size+1) Z35 54/\blk w4 w2.heap.size (acO T s2 S' N' cu' o2) 88/\Bl w2 w4):=by
  have e:(w2.alloc (.cells Z57.toArray 88)).setCells w2.heap.size 0 (acO T s2 S' N' cu' o2)=w4:=HW4.o;rw[<- e];exact⟨sW (by have:=H3.o.2.2.2;omega) 0 _ H3.o.1,H3.o.2.1.other (by have:=H3.o.2.2.2;omega) _ _,H3.o.2.2.1.put [] Z57 [] _ rfl,sW (nR _) 0 _ qw⟩
 clear H3 HW4;go_wp2_with (first
  | (refine qG 54 (J8 H4.o.2.2.1) Tryz.underlying54 (eD _ _ _ _ _) ?_)
  | (refine QE (P:=Tp) rfl 54 _ _ rfl (w.heap.size+1) 0 (opL T S' N' cu' (osS o2 s2)).toArray rfl rfl (H4.o.2.1.there 0 35 (nR _)) (fO _ _ _ _ _) (ey _ _ _ _ _) ?_;generalize hW8:World.setCells _ (w.heap.size+1) 0 _=w8;have HW8:Hid (_=w8):=hW8;clear hW8))
 have e8:w4.setCells (w.heap.size+1) 0 (opL T S' N' cu' (osS o2 s2))=w8:=HW8.o;have hF:blk w8 (w.heap.size+1) (opL T S' N' cu' (osS o2 s2)) 54:=by rw[<- e8];exact H4.o.2.1.put [] Z35 [] _ rfl
 have hL:=QJ (P:=Tp) w8 (w.heap.size+1) 0 54 _ _ hF.load Tryz.underlying54 rfl (eD _ _ _ _ _);refine QF (dY Tryz.results17 _ w8 (w.heap.size+1) _ rfl hL) rfl ?_
 have oth:∀ k,B<=k->k<w2.heap.size->w8.heap[k]?=w2.heap[k]?:=fun k h1 h2=>by
  rw[<- e8];exact (sO _ k (by have:=HN1.o;omega) _ _ _).trans (H4.o.2.2.2.block k h2)
 have hsz:w2.heap.size<=w8.heap.size:=by rw[<- e8,sZ];exact H4.o.2.2.2.size
 refine⟨osS o2 s2,rfl,fun _=>?_,fun x=>Qz HOK.o x,?_⟩
 .obtain⟨u1,u2,u3,u4,B3,T3,u5,u6,u7,u8,u9⟩:=H2.o;have hn:=HN1.o;exact⟨(G.EV u1 oth).mono om,u2,(u3.keep oth).lower om,u4,B3,T3,u5.keep fun k h1 h2=>oth k om om,om,om,u8,u9⟩
 .rw[<- e8];exact sW om 0 _ H4.o.1
end
open Go renaming World->Wd
set_option maxRecDepth 40000
set_option maxHeartbeats 16000000
section
variable {W W' w w4 w7:Wd} {bw bx B6 bg:Nat} {ws w1:List Nat} {C T:Co} {N cu r N1 c1 l1:Int}
structure Ov where
 c:Co
 s:Sc
 n:Int
 u:Int
 w:List Nat
def oL (A:Ov) (q:Os):List Value:=opL A.c A.s A.n A.u q
def oI (W:Wd) (A:Ov) (q:Os):Prop:=eN W A.c A.s A.w q
def leO (A:Ov):Prop:=A.c.ho.le 1048576/\A.s.l.length<=1048576/\A.w.length<=1048576
def cpE (B T:Nat) (ws:List Nat) (q:Os) (W:Wd):Prop:=∃ s T1 g f,cpO B T ws q s T1 g f W
def okA (q:Os):Prop:=dz q.s/\∃ g,q.aw=some ⟨g,0,none⟩
def oI.below {A:Ov} {q:Os} (h:oI W A q) (hb:Below W.heap.size W W'):oI W' A q:=eN.below h hb
def cpE.same {B T:Nat} {q:Os} (h:cpE B T ws q W) (he:∀ x,B<=x->x<T->W'.heap[x]?=W.heap[x]?):cpE B T ws q W':=by
 obtain⟨s,T1,g,f,h⟩:=h;exact⟨s,T1,g,f,h.same he⟩
def Hi (T:Co) (S:Sc) (N cu:Int) (o:Os):(Tp.info? 69).map (·.size)=some (opL T S N cu o).length:=kr
def IG {S:Sc} {T2:Co} {S1 S2:Sc} {N2 c2:Int} {w2:List Nat} {l2:Int} (a:Gq C S N cu ws r T S1 N1 c1 w1 l1) (b:Gq C S N cu ws r T2 S2 N2 c2 w2 l2):T2=T/\S2=S1/\N2=N1/\c2=c1/\w2=w1/\l2=l1:=by
 rcases a with⟨k,rfl,rfl,rfl,a⟩|⟨k,rfl,rfl,rfl,rfl,rfl,rfl⟩
 .rcases b with⟨_,rfl,rfl,rfl,b⟩|⟨k2,_⟩
  .rcases a with⟨p1,p2,rfl,rfl,rfl⟩|⟨p1,rfl,rfl,rfl⟩
   .rcases b with⟨_,_,rfl,rfl,rfl⟩|⟨q1,_⟩
    .exact⟨rfl,rfl,rfl,rfl,rfl,rfl⟩
    .exact Qz ⟨p1,p2⟩ q1
   .rcases b with⟨q1,q2,_⟩|⟨_,rfl,rfl,rfl⟩
    .exact Qz ⟨q1,q2⟩ p1
    .exact⟨rfl,rfl,rfl,rfl,rfl,rfl⟩
  .exact Qz k k2
 .rcases b with⟨k2,_⟩|⟨_,rfl,rfl,rfl,rfl,rfl,rfl⟩
  .exact Qz k2 k
  .exact⟨rfl,rfl,rfl,rfl,rfl,rfl⟩
def Ji (C:Co) (S:Sc) (N cu:Int) (ws:List Nat) (r:Int):∃ T S1 N1 c1 w1 l1,Gq C S N cu ws r T S1 N1 c1 w1 l1:=by
 by_cases h:vf C S N cu ws
 .by_cases h2:C.p=0/\0<=r
  .exact⟨_,_,_,_,_,_,qr ⟨h,rfl,rfl,rfl,qr ⟨h2.1,h2.2,rfl,rfl,rfl⟩⟩⟩
  .exact⟨_,_,_,_,_,_,qr ⟨h,rfl,rfl,rfl,qy ⟨h2,rfl,rfl,rfl⟩⟩⟩
 .exact⟨_,_,_,_,_,_,qy ⟨h,rfl,rfl,rfl,rfl,rfl,rfl⟩⟩
def Jv (bx:List R8):∃ r,eE bx r:=by
 rcases Classical.em (∃ i,m8 bx i) with⟨i,h⟩|h
 .exact⟨i,qy ⟨i,rfl,h⟩⟩
 .exact⟨-1,qr ⟨rfl,fun i hi=>h ⟨i,hi⟩⟩⟩
def Ib {H:Ho} (h:H.le 1048576) (r:Int):(dk H r).le 1048576:=by
 refine⟨h.fs,?_,h.ff,h.qu,fun j hj=>?_,h.fd,h.qd⟩
 .show (bA H.bx r).length<=_;rw[Gj];exact h.bx
 .have hj':j<H.bx.length:=by have:j<(bA H.bx r).length:=hj;rw[Gj] at this;exact this
  show (bA H.bx r)[j].l.length<=_;rw[Jz H.bx r j hj hj'];exact h.bd j hj'
def Jh {S S1:Sc} (hR:Gq C S N cu ws r T S1 N1 c1 w1 l1) (hr:eE C.ho.bx r) (h:C.ho.le 1048576) (hl:S.l.length<=1048576) (hw:ws.length<=1048576) (hs:∀ x ∈ S.l,x<256) (hx:∀ x ∈ ws,x<18446744073709551616):T.ho.le 1048576/\S1.l.length<=1048576/\w1.length<=1048576/\(∀ x ∈ S1.l,x<256)/\∀ x ∈ w1,x<18446744073709551616:=by
 rcases hR with⟨k,eT,_,_,hd⟩|⟨k,rfl,rfl,rfl,rfl,rfl,rfl⟩
 .have h1:T.ho.le 1048576:=by
   rw[eT];unfold rdC;split
   .exact Ib h r
   .exact h
  have h2:=(Gy k hr eT hd hw).2;rcases hd with⟨_,_,rfl,_,rfl⟩|⟨_,rfl,_,rfl⟩
  .exact⟨h1,by decide,h2,(fun x hx=>by cases hx),kE _⟩
  .exact⟨h1,hl,h2,hs,hx⟩
 .exact⟨CU,by decide,by decide,(fun x hx=>by cases hx),(fun x hx=>by cases hx)⟩
structure ldS (w:Wd) (A:Ov) (u:Os) (T:Ov) (bw:Nat) (sw:Os) (W:Wd):Prop where
 p:blk W w.heap.size (oL A u) 69
 q:blk W bw (oL T sw) 54
 t:oI W T sw
 h:oI W A u
 b:Below w.heap.size w W
def ldS.below {A:Ov} {u:Os} {T:Ov} {sw:Os} (h:ldS w A u T bw sw W) (hb:Below W.heap.size W W'):ldS w A u T bw sw W':=⟨h.p.below hb,h.q.below hb,h.t.below hb,h.h.below hb,h.b.trans (hb.mono h.b.size)⟩
structure ldX (w:Wd) (A:Ov) (u:Os) (T:Ov) (bw:Nat) (sw:Os) (w4:Wd) (T5 bx:Nat) (sx:Os) (W:Wd):Prop where
 l:ldS w A u T bw sw W
 x:blk W bx (oL A sx) 54
 xh:oI W A sx
 xw:cpE w4.heap.size T5 A.w sx W
 z:bw<w4.heap.size/\w.heap.size<w4.heap.size/\w4.heap.size<=T5/\T5<=bx
 b4:Below w4.heap.size w4 W
def ldX.below {A:Ov} {u:Os} {T:Ov} {sw:Os} {T5:Nat} {sx:Os} (h:ldX w A u T bw sw w4 T5 bx sx W) (hb:Below W.heap.size W W'):ldX w A u T bw sw w4 T5 bx sx W':=⟨h.l.below hb,h.x.below hb,h.xh.below hb,h.xw.same (fun x _ hx=>hb.block x (by have:=h.x.lt;have:=h.z;omega)),h.z,h.b4.trans (hb.mono h.b4.size)⟩
structure ldG (w:Wd) (A:Ov) (u:Os) (T:Ov) (bw:Nat) (sw:Os) (w4:Wd) (bx B6:Nat) (w7:Wd) (bg:Nat) (sg:Os) (W:Wd):Prop where
 l:ldS w A u T bw sw W
 g:blk W bg (oL T sg) 54
 k:∀ x,B6<=x->x<w7.heap.size->W.heap[x]?=w7.heap[x]?
 z:bx<B6/\B6<=w7.heap.size/\w7.heap.size<=bg
 y:bw<w4.heap.size/\w.heap.size<w4.heap.size/\w4.heap.size<=bx
 b4:Below w4.heap.size w4 W
def ldG.below {A:Ov} {u:Os} {T:Ov} {sw sg:Os} (h:ldG w A u T bw sw w4 bx B6 w7 bg sg W) (hb:Below W.heap.size W W'):ldG w A u T bw sw w4 bx B6 w7 bg sg W':=⟨h.l.below hb,h.g.below hb,fun x h1 h2=>(hb.block x (by have:=h.g.lt;have:=h.z;omega)).trans (h.k x h1 h2),h.z,h.y,h.b4.trans (hb.mono h.b4.size)⟩
def ldG.xmark {A:Ov} {u:Os} {T:Ov} {sw sg:Os} (h:ldG w A u T bw sw w4 bx B6 w7 bg sg W) (h4:oI w4 T sw/\oI w4 A u) (hb:Below w4.heap.size W W') (ho:∀ x,bx<=x->x<W.heap.size->W'.heap[x]?=W.heap[x]?):ldG w A u T bw sw w4 bx B6 w7 bg sg W':=by
 have hb4:=h.b4.trans hb;refine⟨⟨h.l.p.kept (hb.block _ h.y.2.1),h.l.q.kept (hb.block _ h.y.1),h4.1.below hb4,h4.2.below hb4,h.l.b.trans (hb.mono (by have:=h.y;omega))⟩,h.g.kept (ho _ (by have:=h.z;omega) h.g.lt),fun x h1 h2=>(ho x (by have:=h.z;omega) (by have:=h.g.lt;have:=h.z;omega)).trans (h.k x h1 h2),h.z,h.y,hb4⟩
def ldG.gmark {A:Ov} {u:Os} {T:Ov} {sw sg:Os} (h:ldG w A u T bw sw w4 bx B6 w7 bg sg W) (h4:oI w4 T sw/\oI w4 A u) (hb:Below B6 W W'):ldS w A u T bw sw W':=by
 have hz:=h.z;have hy:=h.y;have hb4:=h.b4.trans (hb.mono om);exact⟨h.l.p.kept (hb.block _ om),h.l.q.kept (hb.block _ om),h4.1.below hb4,h4.2.below hb4,h.l.b.trans (hb.mono om)⟩
def ky (z l:List Value) (ty:TypeId) (hl:z.length=l.length):blk (World.setCells (w.alloc (.cells z.toArray ty)) w.heap.size 0 l) w.heap.size l ty/\Below w.heap.size w (World.setCells (w.alloc (.cells z.toArray ty)) w.heap.size 0 l):=by
 refine⟨?_,sW (nR _) 0 l qw⟩;have:=blk.put [] z [] l (w:=w.alloc (.cells z.toArray ty)) (b:=w.heap.size) (T:=ty) (by simpa using blk.new w z ty) (by simpa using hl);simpa using this
def Hs (A:Ov) (u:Os) (w:Wd) (tab:w.rangeAt 0 0 bV) (hz0:0<w.heap.size) (h:oI w A u) (hn:A.c.ho.le 9223372036854775807) (hl:A.s.l.length<=9223372036854775807) (hw:A.w.length<=9223372036854775807) :
  Calls Tp 4 #[aG (oL A u).toArray] w fun o w'=>o = rT (bO true)/\Below w.heap.size w w':=by
 obtain⟨r,hr⟩:=Jv A.c.ho.bx;obtain⟨T0,S0,N0,c0,ws0,lv,hR0⟩:=Ji A.c A.s A.n A.u A.w r;obtain⟨T,eT⟩ : ∃ T:Ov,T=⟨T0,S0,N0,c0,ws0⟩:=⟨_,rfl⟩
 have hR:Gq A.c A.s A.n A.u A.w r T.c T.s T.n T.u T.w lv:=by rw[eT];exact hR0
 clear eT hR0;have HS:Hid (∀ X,Below w.heap.size w X->Calls Tp 14 #[aG (oL A u).toArray,I J 1048576] X fun o w'=>∃ z:Int,o = rT (I J z)/\Below X.heap.size X w'/\(z = -1\/∃ m':Nat,z=(m':Int)/\leO A)):=fun X hX=>I0 X A.c A.s A.n A.u A.w u (h.below hX) hn hl hw;have HT:Hid (leO A->∀ X,oI X A u->Calls Tp 16 #[aG (oL A u).toArray] X fun o w'=>∃ s':Os,o = rT (aG (oL A s').toArray)/\St X.heap.size w' (fun W=>oI W A s')/\cpE X.heap.size w'.heap.size A.w s' w'/\okA s'/\Below X.heap.size X w'):=fun hm X hX=>(IZ X A.c A.s A.n A.u A.w u hX hm.1 hm.2.1 hm.2.2).mono (by rintro o w' ⟨s',rfl,q1,q2,q3,q4,q5⟩;exact⟨s',rfl,q1,q2,⟨q3,q4⟩,q5⟩)
 have HE:Hid (leO A->∀ X s',oI X A s'->Calls Tp 15 #[aG (oL A s').toArray] X fun o w'=>∃ s2,o = rT (.tuple #[aG (oL T s2).toArray,I J lv])/\oI w' T s2/\Below X.heap.size X w'):=fun hm X s' h'=>(JS X A.c A.s A.n A.u A.w s' r h' hm.1 hm.2.1 hm.2.2 hr).mono (by
  rintro o w' ⟨T1,S1,N1,c1,ws1,l1,q1,rfl,a1,a2,a3⟩;obtain⟨rfl,rfl,rfl,rfl,rfl,rfl⟩:=IG hR a1
  exact⟨q1,rfl,a2,a3⟩)
 have hle:=fun hm:leO A=>Jh hR hr hm.1 hm.2.1 hm.2.2 h.d.small h.w.small
 have HI:Hid (leO A->∀ X,Below w.heap.size w X->∀ s',oI X A s'->okA s'->Calls Tp 17 #[aG (oL A s').toArray] X fun o w'=>∃ sg,o = rT (.tuple #[aG (oL T sg).toArray,I J lv])/\St X.heap.size w' (fun W=>oI W T sg)/\MKO X.heap.size T.c T.s T.n T.u sg w'/\Below X.heap.size X w'):=fun hm X hX s' h' hs'=>(JZ X (fun j v hv=>(hX.cell (p:=⟨0,0+j,none⟩) (by exact hz0)).trans (tab j v hv)) (nL hz0 hX.size) A.c A.s A.n A.u A.w s' h' hs'.1 (qy hs'.2) hm.1 hm.2.1 hm.2.2 r hr T.c T.s T.n T.u T.w lv hR).mono (by
  rintro o w' ⟨q1,rfl,a2,a3,a4⟩;obtain⟨l1,l2,l3,l4,l5⟩:=hle hm
  by_cases hok:vf A.c A.s A.n A.u A.w
  .exact⟨q1,rfl,(a2 hok).st l4 l5,(a2 hok).mko l2 l3,a4⟩
  .obtain rfl:=a3 hok
   rcases hR with⟨k,_⟩|⟨_,e1,e2,e3,e4,e5,_⟩
   .exact Qz k hok
   .refine⟨zOs,rfl,fun W _=>?_,?_,a4⟩
    .show eN W T.c T.s T.w zOs
     rw[e1,e2,e5];exact xB W
    .rw[e1,e2,e3,e4];exact Ax _ _ a4.size)
 have HQ:Hid (leO A->∀ X s1 s2,oI X T s1->oI X T s2->Calls Tp 9 #[aG (oL T s1).toArray,aG (oL T s2).toArray] X fun o w'=>o = rT (bO true)/\Below X.heap.size X w'):=fun hm X s1 s2 h1 h2=>xe X T.c T.s T.n T.u T.w s1 s2 h1 h2 (hle hm).1 (hle hm).2.1 (hle hm).2.2.1;have HQH:Hid (leO A->∀ X s1 s2,oI X A s1->oI X A s2->Calls Tp 9 #[aG (oL A s1).toArray,aG (oL A s2).toArray] X fun o w'=>o = rT (bO true)/\Below X.heap.size X w'):=fun hm X s1 s2 h1 h2=>xe X A.c A.s A.n A.u A.w s1 s2 h1 h2 hm.1 hm.2.1 hm.2.2;have HMK:Hid (leO A->∀ X B bx s',oI X A s'->cpE B bx A.w s' X->bx<=X.heap.size->Calls Tp 12 #[aG (oL A s').toArray,I J 1] X fun o w1=>∃ k:Nat,o = rT (I J (k:Int))/\(∀ x,bx<=x->x<X.heap.size->w1.heap[x]?=X.heap[x]?)/\Below B X w1):=fun hm X B bx s' h1 ⟨_,_,_,_,h2⟩ h3=>h2.mark h3 (by have:=h1.d.len;have:=hm.2.1;omega) hm.2.2;have P0:blk (w.alloc (.cells (oL A u).toArray 69)) w.heap.size (oL A u) 69:=blk.new w _ 69;have HA:Hid (Below w.heap.size w (w.alloc (.cells (oL A u).toArray 69))):=qw;have HH:Hid (∀ X,Below w.heap.size w X->oI X A u):=fun X hX=>h.below hX;have HP0:Hid (blk (w.alloc (.cells (oL A u).toArray 69)) w.heap.size (oL A u) 69):=P0;clear h hn hl hw P0 hR hr hle tab hz0;go_enter Tryz.func4,Tryz.ntmps4;go_wp2_with (refine qG 69 HP0.o.load Tryz.underlying69 (Hi _ _ _ _ _) ?_);refine (HS.o _ HA.o).mono ?_;rintro o w1 ⟨z,rfl,b1,h1⟩;have HP1:Hid (blk w1 w.heap.size (oL A u) 69):=HP0.o.below b1;have HB1:Hid (Below w.heap.size w w1):=HA.o.trans (b1.mono pQ);clear b1 HP0 HA HS;rcases h1 with rfl|⟨m',rfl,hle⟩
 .go_wp2_with fail;go_ret;exact⟨rfl,HB1.o⟩
 have HLE:Hid (leO A):=hle;clear hle;go_wp2_with (refine qG 69 HP1.o.load Tryz.underlying69 (Hi _ _ _ _ _) ?_);refine (HT.o HLE.o _ (HH.o _ HB1.o)).mono ?_;rintro o w2 ⟨s2,rfl,S2,_,_,b2⟩;have HO2:Hid (oI w2 A s2):=S2.now;have HP2:Hid (blk w2 w.heap.size (oL A u) 69):=HP1.o.below b2;have HB2:Hid (Below w.heap.size w w2):=HB1.o.trans (b2.mono HB1.o.size);clear S2 b2 HP1 HB1;go_wp2_with fail;refine (HE.o HLE.o w2 s2 HO2.o).mono ?_;rintro o w3 ⟨sw,rfl,hT3,b3⟩;have HP3:Hid (blk w3 w.heap.size (oL A u) 69):=HP2.o.below b3;have HB3:Hid (Below w.heap.size w w3):=HB2.o.trans (b3.mono HB2.o.size);have HT3:Hid (oI w3 T sw):=hT3;clear hT3 b3 HP2 HB2 HO2 HE;have HNW:Hid (blk (World.setCells (w3.alloc (.cells Z35.toArray 54)) w3.heap.size 0 (oL T sw)) w3.heap.size (oL T sw) 54/\Below w3.heap.size w3 (World.setCells (w3.alloc (.cells Z35.toArray 54)) w3.heap.size 0 (oL T sw))):=ky Z35 _ _ rfl;have HN3:Hid (blk (w3.alloc (.cells Z35.toArray 54)) w3.heap.size Z35 54):=blk.new w3 _ 54;go_wp2_with (first | (refine QE (P:=Tp) rfl 54 _ _ rfl w3.heap.size 0 (oL T sw).toArray rfl rfl (HN3.o.there 0 _ (nR _)) (fO _ _ _ _ _) (ey _ _ _ _ _) ?_;generalize hW4:World.setCells (w3.alloc _) w3.heap.size 0 _=w4;have HW4:Hid (ldS w A u T w3.heap.size sw w4):=(by rw[<- hW4];exact⟨HP3.o.below HNW.o.2,HNW.o.1,HT3.o.below HNW.o.2,HH.o _ (HB3.o.trans (HNW.o.2.mono HB3.o.size)),HB3.o.trans (HNW.o.2.mono HB3.o.size)⟩);clear hW4 HNW HN3) | (refine qG 69 HW4.o.p.load Tryz.underlying69 (Hi _ _ _ _ _) ?_));clear HP3 HB3 HT3;generalize w3.heap.size=bw at *;refine (HT.o HLE.o _ HW4.o.h).mono ?_;rintro o w5 ⟨s5,rfl,S5,S5w,S5s,b5⟩;have HX5:Hid (ldS w A u T bw sw w5/\oI w5 A s5/\cpE w4.heap.size w5.heap.size A.w s5 w5):=⟨HW4.o.below b5,S5.now,S5w⟩
 have HD5:Hid (okA s5):=S5s;have HB45:Hid (Below w4.heap.size w4 w5):=b5;have HH4:Hid (oI w4 T sw/\oI w4 A u):=⟨HW4.o.t,HW4.o.h⟩
 have HZ5:Hid (bw<w4.heap.size/\w.heap.size<w4.heap.size/\w4.heap.size<=w5.heap.size):=⟨HW4.o.q.lt,HW4.o.p.lt,b5.size⟩
 clear S5 S5w S5s b5;have HN5a:Hid (blk (World.setCells (w5.alloc (.cells Z35.toArray 54)) w5.heap.size 0 (oL A s5)) w5.heap.size (oL A s5) 54/\Below w5.heap.size w5 (World.setCells (w5.alloc (.cells Z35.toArray 54)) w5.heap.size 0 (oL A s5))):=ky Z35 _ _ rfl;have HN5b:Hid (blk (w5.alloc (.cells Z35.toArray 54)) w5.heap.size Z35 54):=blk.new w5 _ 54;go_wp2_with (first | (refine QE (P:=Tp) rfl 54 _ _ rfl w5.heap.size 0 (oL A s5).toArray rfl rfl (HN5b.o.there 0 _ (nR _)) (fO _ _ _ _ _) (ey _ _ _ _ _) ?_;generalize hW6:World.setCells (w5.alloc _) w5.heap.size 0 _=w6;have HX6:Hid (ldX w A u T bw sw w4 w5.heap.size w5.heap.size s5 w6):=(by rw[<- hW6];exact⟨HX5.o.1.below HN5a.o.2,HN5a.o.1,HX5.o.2.1.below HN5a.o.2,HX5.o.2.2.same (fun x _ hx=>HN5a.o.2.block x hx),⟨HZ5.o.1,HZ5.o.2.1,HZ5.o.2.2,nR _⟩,HB45.o.trans (HN5a.o.2.mono HB45.o.size)⟩);clear hW6 HN5a HN5b) | (refine qG 54 HX6.o.x.load Tryz.underlying54 (eD _ _ _ _ _) ?_));clear HX5 HZ5 HW4 HB45;generalize hT5:w5.heap.size=bx at *;clear hT5;refine (HI.o HLE.o w6 HX6.o.l.b s5 HX6.o.xh HD5.o).mono ?_;rintro o w7 ⟨sg,rfl,S7,M7,b7⟩;have HX7:Hid (ldX w A u T bw sw w4 bx bx s5 w7):=HX6.o.below b7;have HG7:Hid (St w6.heap.size w7 (fun W=>oI W T sg)/\MKO w6.heap.size T.c T.s T.n T.u sg w7/\w6.heap.size<=w7.heap.size/\bx<w6.heap.size):=⟨S7,M7,b7.size,HX6.o.x.lt⟩
 clear S7 M7 b7 HX6;have HN7a:Hid (blk (World.setCells (w7.alloc (.cells Z35.toArray 54)) w7.heap.size 0 (oL T sg)) w7.heap.size (oL T sg) 54/\Below w7.heap.size w7 (World.setCells (w7.alloc (.cells Z35.toArray 54)) w7.heap.size 0 (oL T sg))):=ky Z35 _ _ rfl;have HN7b:Hid (blk (w7.alloc (.cells Z35.toArray 54)) w7.heap.size Z35 54):=blk.new w7 _ 54
 go_wp2_with (first
  | (refine QE (P:=Tp) rfl 54 _ _ rfl w7.heap.size 0 (oL T sg).toArray rfl rfl (HN7b.o.there 0 _ (nR _)) (fO _ _ _ _ _) (ey _ _ _ _ _) ?_;generalize hW8:World.setCells (w7.alloc _) w7.heap.size 0 _=w8;have HX8:Hid (ldX w A u T bw sw w4 bx bx s5 w8/\blk w8 w7.heap.size (oL T sg) 54/\Below w7.heap.size w7 w8):=(by rw[<- hW8];exact⟨HX7.o.below HN7a.o.2,HN7a.o.1,HN7a.o.2⟩);clear hW8 HN7a HN7b)
  | (refine qG 54 HX8.o.2.1.load Tryz.underlying54 (eD _ _ _ _ _) ?_)
  | (refine qG 54 HX8.o.1.l.q.load Tryz.underlying54 (eD _ _ _ _ _) ?_))
 have HG8:Hid (ldG w A u T bw sw w4 bx w6.heap.size w7 w7.heap.size sg w8):=⟨HX8.o.1.l,HX8.o.2.1,fun x h1 h2=>HX8.o.2.2.block x h2,⟨HG7.o.2.2.2,HG7.o.2.2.1,nR _⟩,⟨HX8.o.1.z.1,HX8.o.1.z.2.1,by have:=HX8.o.1.z;omega⟩,HX8.o.1.b4⟩
 have HX9:Hid (ldX w A u T bw sw w4 bx bx s5 w8):=HX8.o.1;have HSM:Hid (St w6.heap.size w7 (fun W=>oI W T sg)/\MKO w6.heap.size T.c T.s T.n T.u sg w7):=⟨HG7.o.1,HG7.o.2.1⟩
 clear HX8 HG7 HX7;generalize w6.heap.size=B6 at *;refine (HQ.o HLE.o w8 sg sw (HSM.o.1 w8 HG8.o.k) HG8.o.l.t).mono ?_;rintro o w9 ⟨rfl,b9⟩;have HX10:Hid (ldX w A u T bw sw w4 bx bx s5 w9/\ldG w A u T bw sw w4 bx B6 w7 w7.heap.size sg w9):=⟨HX9.o.below b9,HG8.o.below b9⟩
 clear b9 HX9 HG8;generalize hbg:w7.heap.size=bg at *;have HBG:Hid (w7.heap.size=bg):=hbg;clear hbg;go_wp2_with fail;refine QK (S:=fun W=>ldX w A u T bw sw w4 bx bx s5 W/\ldG w A u T bw sw w4 bx B6 w7 bg sg W) kr ?_;have hS:ldX w A u T bw sw w4 bx bx s5 w9.drew/\ldG w A u T bw sw w4 bx B6 w7 bg sg w9.drew:=⟨HX10.o.1.below (bW _ _).drew,HX10.o.2.below (bW _ _).drew⟩
 clear HX10;change wpAnyH Tp _ _ _ _ _ _ _ w9.drew;generalize w9.drew=w10 at *;refine wU 0 (aG (oL A s5).toArray) rfl (QM (by rfl) 54 _ rfl bx 0 rfl (oL A s5) _ (fun W h=>h.1.x.load) Tryz.underlying54 rfl (eD _ _ _ _ _)) hS ?_;simp only[Act.put,aA,aB,aC,aD,aE];refine wU 1 (aG (oL A u).toArray) rfl (QM (by rfl) 69 _ rfl w.heap.size 0 rfl (oL A u) _ (fun W h=>h.1.l.p.load) Tryz.underlying69 rfl (Hi _ _ _ _ _)) hS ?_;simp only[aZ];refine QG (rs:=[2]) kr pQ ?_;refine Q9 rfl (fun K2 hK2=>?_) za;go_simp;refine (HT.o HLE.o _ hS.1.l.h).mono ?_;rintro o w11 ⟨s11,rfl,S11,_,_,b11⟩;have HO11:Hid (oI w11 A s11):=S11.now;have hS11:ldX w A u T bw sw w4 bx bx s5 w11/\ldG w A u T bw sw w4 bx B6 w7 bg sg w11:=⟨hS.1.below b11,hS.2.below b11⟩
 clear S11 b11;go_wp2_with fail;refine hK2.out _ _ hS11 (fun hS2=>?_);clear hS hK2 K2 hS11;have hS:=hS2;clear hS2;refine QG (rs:=[3]) kr pQ ?_;refine Q9 rfl (fun K2 hK2=>?_) za;go_simp;refine (HQH.o HLE.o _ s5 s11 hS.1.xh HO11.o).mono ?_;rintro o w12 ⟨rfl,b12⟩;have hS12:ldX w A u T bw sw w4 bx bx s5 w12/\ldG w A u T bw sw w4 bx B6 w7 bg sg w12:=⟨hS.1.below b12,hS.2.below b12⟩
 clear b12 HO11;go_wp2_with fail;refine hK2.out _ _ hS12 (fun hS2=>?_);clear hS hK2 K2 hS12;have hS:=hS2;clear hS2;refine wV 4 (bO false) ?_ hS ?_
 .intro W hSw;clear hS;go_simp
 simp only[aZ];refine QI kr ?_ _;have HX12:Hid (ldX w A u T bw sw w4 bx bx s5 w12/\ldG w A u T bw sw w4 bx B6 w7 bg sg w12):=hS;clear hS;go_wp2_with (refine qG 54 HX12.o.1.x.load Tryz.underlying54 (eD _ _ _ _ _) ?_);have HMX:Hid (Calls Tp 12 #[aG (oL A s5).toArray,I J 1] w12 fun o w1=>∃ k:Nat,o = rT (I J (k:Int))/\(∀ x,bx<=x->x<w12.heap.size->w1.heap[x]?=w12.heap[x]?)/\Below w4.heap.size w12 w1):=HMK.o HLE.o _ _ _ _ HX12.o.1.xh HX12.o.1.xw (qB HX12.o.1.x.lt);refine (Calls.mono HMX.o) ?_;rintro o w13 ⟨k,rfl,q1,q2⟩;have HG13:Hid (ldG w A u T bw sw w4 bx B6 w7 bg sg w13):=HX12.o.2.xmark HH4.o q2 q1;clear q1 q2 HX12 HMX;have hk0:decide ((k:Int)<0)=false:=pQ
 go_wp2_with (first
  | (refine di (by first | rfl | (simp[Region.wanted,yielded];done) | (simp[Region.wanted,yielded];omega)) 54 _ rfl bg 0 rfl (oL T sg) _ HG13.o.g.load Tryz.underlying54 rfl (eD _ _ _ _ _) ?_)
  | (refine di (by first | rfl | (simp[Region.wanted,yielded];done) | (simp[Region.wanted,yielded];omega)) 54 _ rfl bw 0 rfl (oL T sw) _ HG13.o.l.q.load Tryz.underlying54 rfl (eD _ _ _ _ _) ?_))
 refine (HQ.o HLE.o w13 sg sw (HSM.o.1 w13 HG13.o.k) HG13.o.l.t).mono ?_;rintro o w14 ⟨rfl,b14⟩;have HG14:Hid (ldG w A u T bw sw w4 bx B6 w7 bg sg w14):=HG13.o.below b14;clear b14 HG13 hk0;go_wp2_with (refine qG 54 HG14.o.g.load Tryz.underlying54 (eD _ _ _ _ _) ?_);have hzz:w7.heap.size<=w14.heap.size:=by have:=HG14.o.g.lt;have:=HG14.o.z;omega
 refine (HSM.o.2 w14 HG14.o.k hzz).mono ?_;rintro o w15 ⟨m,rfl,b15,o15,c15⟩;have HL15:Hid (ldS w A u T bw sw w15):=HG14.o.gmark HH4.o b15;have HV15:Hid (blk w15 bg (oL T sg) 54):=HG14.o.g.kept (o15 _ HG14.o.z.2.2 HG14.o.g.lt);have HC15:Hid (Calls Tp 13 #[aG (oL T sg).toArray,I J 1] w15 fun o w2=>o = rT (I J (m:Int))/\Below w15.heap.size w15 w2):=c15 w15 (bW _ _);clear b15 o15 c15 HG14 HSM hzz HH4;go_wp2_with (refine qG 54 HV15.o.load Tryz.underlying54 (eD _ _ _ _ _) ?_);refine (Calls.mono HC15.o) ?_;rintro o w16 ⟨rfl,b16⟩;have HL16:Hid (ldS w A u T bw sw w16):=HL15.o.below b16;clear b16 HL15 HV15 HC15;have hm0:¬ (m:Int)<0:=om;go_wp2_with (refine qG 69 HL16.o.p.load Tryz.underlying69 (Hi _ _ _ _ _) ?_);refine (HT.o HLE.o _ HL16.o.h).mono ?_;rintro o w17 ⟨s17,rfl,S17,_,S17s,b17⟩;have HL17:Hid (ldS w A u T bw sw w17/\oI w17 A s17/\okA s17):=⟨HL16.o.below b17,S17.now,S17s⟩
 clear S17 S17s b17 HL16;go_wp2_with fail;refine (HI.o HLE.o w17 HL17.o.1.b s17 HL17.o.2.1 HL17.o.2.2).mono ?_;rintro o w18 ⟨sh,rfl,S18,_,b18⟩;have HL18:Hid (ldS w A u T bw sw w18/\oI w18 T sh):=⟨HL17.o.1.below b18,S18.now⟩
 clear S18 b18 HL17;have HN18a:Hid (blk (World.setCells (w18.alloc (.cells Z35.toArray 54)) w18.heap.size 0 (oL T sh)) w18.heap.size (oL T sh) 54/\Below w18.heap.size w18 (World.setCells (w18.alloc (.cells Z35.toArray 54)) w18.heap.size 0 (oL T sh))):=ky Z35 _ _ rfl;have HN18b:Hid (blk (w18.alloc (.cells Z35.toArray 54)) w18.heap.size Z35 54):=blk.new w18 _ 54
 go_wp2_with (first
  | (refine QE (P:=Tp) rfl 54 _ _ rfl w18.heap.size 0 (oL T sh).toArray rfl rfl (HN18b.o.there 0 _ (nR _)) (fO _ _ _ _ _) (ey _ _ _ _ _) ?_;generalize hW19:World.setCells (w18.alloc _) w18.heap.size 0 _=w19;have HL19:Hid (ldS w A u T bw sw w19/\oI w19 T sh/\blk w19 w18.heap.size (oL T sh) 54):=(by rw[<- hW19];exact⟨HL18.o.1.below HN18a.o.2,HL18.o.2.below HN18a.o.2,HN18a.o.1⟩);clear hW19 HN18a HN18b)
  | (refine qG 54 HL19.o.1.q.load Tryz.underlying54 (eD _ _ _ _ _) ?_)
  | (refine qG 54 HL19.o.2.2.load Tryz.underlying54 (eD _ _ _ _ _) ?_))
 refine (HQ.o HLE.o w19 sh sw HL19.o.2.1 HL19.o.1.t).mono ?_;rintro o w20 ⟨rfl,b20⟩;have HL20:Hid (Below w.heap.size w w20):=(HL19.o.1.below b20).b;clear b20 HL19 HL18;go_wp2_with fail;go_ret;exact⟨rfl,HL20.o⟩
end
end Go.Proofs.YtnfmjckkibdcaaaGreatDoor
