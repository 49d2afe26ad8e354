import Derived.Test.YtnfmjckkibdcaaaGreatDoorK28
import Derived.Test.YtnfmjckkibdcaaaGreatDoorK25
import Derived.Deep.RegionHeld3
namespace Go.Proofs.YtnfmjckkibdcaaaGreatDoor
open Go.RowKit
set_option linter.all false
def whS.mono {B T B' T':Nat} {W:World} {s:Wh} (h:whS B T W s) (hB:B'<=B) (hT:T<=T'):whS B' T' W s:=
 ⟨h.f,h.fc,⟨by have:=h.fb.1;omega,by have:=h.fb.2;omega⟩,h.x,h.xb.mono hB hT,h.r,h.rb.mono hB hT,h.q,h.qb.mono hB hT,h.m1,h.m2,h.m3,h.m4⟩
def pn.put {w w3 w4 w8:World} {H:Ho} {s4:Wh} {R:Nat} (hz:w.heap.size<=w3.heap.size) (hR:R<w3.heap.size) (q1:St w3.heap.size w4 (fun W=>aK W H s4.sl)) (q2:whS w3.heap.size w4.heap.size w4 s4) (oth:∀ x,x≠R->w8.heap[x]?=w4.heap[x]?) (hs:w8.heap.size=w4.heap.size):St w.heap.size w8 (fun W=>aK W H s4.sl)/\whS w.heap.size w8.heap.size w8 s4:=by
 refine⟨fun W hW=>q1 W (fun x h1 h2=>(hW x om om).trans (oth x om)),?_⟩;rw[hs];exact (q2.same (fun x h1 h2=>oth x om)).mono hz (nR _)
set_option maxRecDepth 20000
set_option maxHeartbeats 16000000
open Go.Value renaming int->I,slice->sL,bool->bO,pointer->pT,agg->aG
open Go.IntKind renaming i64->J
open Go.Ending renaming returned->rT
open Go.Proofs.Tryz renaming prog->Tp
def xK (w:World) (C:Co) (o:Ending) (w':World):Prop:=∃ s4:Wh,o = rT (aG (coL C s4.sl).toArray)/\St w.heap.size w' (fun W=>aK W C.ho s4.sl)/\whS w.heap.size w'.heap.size w' s4/\whD s4/\whE s4/\Bl w w'
def wt (w:World) (M P:Nat) (C:Co) (hm:blk w M (mcL P C) 151) (ht:∀ X,Bl w X->Calls Tp 130 #[pT (some ⟨P,0,none⟩)] X (pn X C.ho)) :
  Calls Tp 63 #[pT (some ⟨M,0,none⟩)] w (xK w C):=by
 have HT:Hid (∀ X,Bl w X->Calls Tp 130 #[pT (some ⟨P,0,none⟩)] X (pn X C.ho)):=ht;have HA:Hid (Bl w (w.alloc (.cells Z21.toArray 43))):=qw;have HM:Hid (blk (w.alloc (.cells Z21.toArray 43)) M (mcL P C) 151/\blk (w.alloc (.cells Z21.toArray 43)) w.heap.size Z21 43/\Bl w (w.alloc (.cells Z21.toArray 43))):=⟨hm.below HA.o,blk.new w _ 43,HA.o⟩
 clear hm ht HA;go_enter Tryz.func63,Tryz.ntmps63;go_wp2_with fail;refine QK (S:=fun X=>blk X M (mcL P C) 151/\(∃ l:List Value,l.length=21/\blk X w.heap.size l 43)/\Bl w X) kr ?_;have hS:(fun X=>blk X M (mcL P C) 151/\(∃ l:List Value,l.length=21/\blk X w.heap.size l 43)/\Bl w X) (World.drew (w.alloc (.cells Z21.toArray 43))):=⟨HM.o.1.below (bW _ _).drew,⟨Z21,rfl,HM.o.2.1.below (bW _ _).drew⟩,HM.o.2.2.drew⟩
 clear HM;change wpAnyH Tp _ _ _ _ _ _ _ (World.drew (w.alloc (.cells Z21.toArray 43)));generalize World.drew (w.alloc (.cells Z21.toArray 43))=v0 at *;refine tk 0 ?_;refine tk 1 ?_;refine tk 2 ?_;refine tk 3 ?_;refine tk 4 ?_ (hy:=fun W hSw=>by (have y:=hSw.1.cell 3 (I J C.p) rfl;go_simp;try rfl));refine tk 5 ?_;refine tk 6 ?_;refine tk 7 ?_;refine tk 8 ?_;refine tk 9 ?_ (hy:=fun W hSw=>by (have y:=hSw.1.cell 4 (I J C.ct) rfl;go_simp;try rfl));refine tk 10 ?_;refine tk 11 ?_;refine tk 12 ?_;refine tk 13 ?_;refine tk 14 ?_ (hy:=fun W hSw=>by (have y:=hSw.1.cell 5 (I J C.lv) rfl;go_simp;try rfl));refine tk 15 ?_;refine tk 16 ?_;refine tk 17 ?_;refine tk 18 ?_;refine tk 19 ?_ (hy:=fun W hSw=>by (have y:=hSw.1.cell 6 (bO C.wk) rfl;go_simp;try rfl));refine tk 20 ?_;refine tk 21 ?_;refine tk 22 ?_;refine tk 23 ?_;refine tk 24 ?_ (hy:=fun W hSw=>by (have y:=hSw.1.cell 7 (bO C.ov) rfl;go_simp;try rfl));refine tk 25 ?_;refine tk 26 ?_;refine tk 27 ?_;refine tk 28 ?_;refine tk 29 ?_ (hy:=fun W hSw=>by (have y:=hSw.1.cell 8 (bO C.ow) rfl;go_simp;try rfl));refine tk 30 ?_;refine tk 31 ?_;refine tk 32 ?_;refine tk 33 ?_;refine tk 34 ?_ (hy:=fun W hSw=>by (have y:=hSw.1.cell 9 (bO C.tx) rfl;go_simp;try rfl));refine tk 35 ?_;refine tk 36 ?_;refine tk 37 ?_;refine tk 38 ?_;refine tk 39 ?_ (hy:=fun W hSw=>by (have y:=hSw.1.cell 10 (bO C.ak) rfl;go_simp;try rfl));refine tk 40 ?_;refine tk 41 ?_;refine tk 42 ?_;refine tk 43 ?_;refine tk 44 ?_ (hy:=fun W hSw=>by (have y:=hSw.1.cell 11 (I J C.rn) rfl;go_simp;try rfl));refine tk 45 ?_;refine tk 46 ?_;refine tk 47 ?_;refine tk 48 ?_;refine tk 49 ?_ (hy:=fun W hSw=>by (have y:=hSw.1.cell 1 (I J C.te) rfl;go_simp;try rfl));refine tk 50 ?_;refine tk 51 ?_;refine tk 52 ?_;refine tk 53 ?_;refine tk 54 ?_ (hy:=fun W hSw=>by (have y:=hSw.1.cell 2 (I J C.re) rfl;go_simp;try rfl));refine tk 55 ?_;refine tk 56 ?_;refine tk 57 ?_;refine tk 58 ?_;refine tk 59 ?_ (hy:=fun W hSw=>by (have y:=hSw.1.cell 0 (pT (some ⟨P,0,none⟩)) rfl;go_simp;try rfl));refine al 60 fun K2 hK2=>?_;go_simp;refine (HT.o _ hS.2.2).mono ?_;rintro o w2 ⟨s4,rfl,q1,q2,q3,q4,hb⟩;have hS2:(fun X=>blk X M (mcL P C) 151/\(∃ l:List Value,l.length=21/\blk X w.heap.size l 43)/\Bl w X) w2:=⟨hS.1.below hb,(by obtain⟨l,h1,h2⟩:=hS.2.1;exact⟨l,h1,h2.below hb⟩),hS.2.2.trans (hb.mono hS.2.2.size)⟩
 have HQ:Hid (St v0.heap.size w2 (fun W=>aK W C.ho s4.sl)/\whS v0.heap.size w2.heap.size w2 s4/\whD s4/\whE s4):=⟨q1,q2,q3,q4⟩
 have HZ:Hid (w.heap.size<=v0.heap.size/\w.heap.size<v0.heap.size):=⟨hS.2.2.size,(by obtain⟨l,h1,h2⟩:=hS.2.1;exact h2.lt)⟩
 clear q1 q2 q3 q4 hb;go_wp2_with fail;refine hK2.out _ _ hS2 (fun hS3=>?_);clear hK2 K2 hS2 hS;have hS:=hS3;clear hS3;refine tk 61 (v:=aG (coL C s4.sl).toArray) ?_ (hy:=fun W hSw=>by (simp only[coL,hoL];go_simp;try rfl));refine al 62 fun K2 hK2=>?_;rw[zc (by rfl)];obtain⟨l0,hl0,hbl⟩:=hS.2.1;have HL0:Hid (l0.length=21/\blk w2 w.heap.size l0 43):=⟨hl0,hbl⟩
 refine QU 43 (.tmp 2) (.tmp 64) rfl w.heap.size 0 (coL C s4.sl).toArray rfl rfl (hbl.there 0 _ (by rw[qS,cL,hl0];decide)) (nO C s4.sl) (cO C s4.sl) ?_;generalize hW8:World.setCells w2 w.heap.size 0 _=w8
 have HM8:Hid (M≠w.heap.size):=fun e=>by
  have h1:=hS.1;have h2:=HL0.o.2;rw[e] at h1;have:=h1.symm.trans h2;simp at this
 have hf8:blk w8 w.heap.size (coL C s4.sl) 43:=by
  rw[<- hW8];have:=blk.put [] l0 [] (coL C s4.sl) (w:=w2) (b:=w.heap.size) (T:=43) (by simpa using HL0.o.2) (by rw[HL0.o.1,cL]);simpa using this
 have HF:Hid (blk w8 w.heap.size (coL C s4.sl) 43):=hf8;clear hf8;have oth:∀ x,x≠w.heap.size->w8.heap[x]?=w2.heap[x]?:=fun x hx=>by rw[<- hW8];exact sO _ x hx _ _ _
 have hsz:w8.heap.size=w2.heap.size:=by rw[<- hW8];exact sZ ..
 have HB8:Hid (Bl w w8):=by rw[<- hW8];exact sW om 0 _ hS.2.2
 have HQ8:Hid (St w.heap.size w8 (fun W=>aK W C.ho s4.sl)/\whS w.heap.size w8.heap.size w8 s4):=pn.put (w:=w) HZ.o.1 HZ.o.2 HQ.o.1 HQ.o.2.1 oth hsz;have hS8:(fun X=>blk X M (mcL P C) 151/\(∃ l:List Value,l.length=21/\blk X w.heap.size l 43)/\Bl w X) w8:=⟨hS.1.kept (oth _ HM8.o),⟨_,cL _ _,HF.o⟩,HB8.o⟩
 clear oth hsz hW8 hbl hl0;refine hK2.out _ _ hS8 (fun hS3=>?_);clear hK2 K2 hS8 hS hS3 HL0 HM8 HZ;refine QI kr ?_ _;go_wp2_with fail;have hL:=QJ (P:=Tp) w8 w.heap.size 0 43 _ _ HF.o.load Tryz.underlying43 rfl (cy C s4.sl);refine bC Tryz.results63 hL ?_;exact⟨s4,rfl,HQ8.o.1,HQ8.o.2,HQ.o.2.2.1,HQ.o.2.2.2,HB8.o⟩
def iI (w:World) (C:Co) (s:Sl) (VP CP MP SP:Prop) (hv:∀ W,Bl w W->Calls Tp 119 #[aG (hoL C.ho s).toArray] W fun o w'=>cK o VP/\Bl W w')
  (hc:(0<=C.p/\C.p<=7)->∀ W,Bl w W->Calls Tp 120 #[aG (coL C s).toArray] W fun o w'=>cK o CP/\Bl W w')
  (hm:(0<=C.p/\C.p<=7)->∀ W,Bl w W->Calls Tp 121 #[aG (coL C s).toArray] W fun o w'=>cK o MP/\Bl W w')
  (hz:VP->∀ W,Bl w W->Calls Tp 122 #[aG (coL C s).toArray] W fun o w'=>cK o SP/\Bl W w') :
  Calls Tp 60 #[aG (coL C s).toArray] w fun o w'=>cK o ((0<=C.p/\C.p<=7)/\VP/\CP/\MP/\((C.p=1/\C.tx=true)↔SP))/\Bl w w':=by
 have HV:Hid (∀ W,Bl w W->Calls Tp 119 #[aG (hoL C.ho s).toArray] W fun o w'=>cK o VP/\Bl W w'):=hv;have HC0:Hid ((0<=C.p/\C.p<=7)->∀ W,Bl w W->Calls Tp 120 #[aG (coL C s).toArray] W fun o w'=>cK o CP/\Bl W w'):=hc;have HM0:Hid ((0<=C.p/\C.p<=7)->∀ W,Bl w W->Calls Tp 121 #[aG (coL C s).toArray] W fun o w'=>cK o MP/\Bl W w'):=hm;have HZ0:Hid (VP->∀ W,Bl w W->Calls Tp 122 #[aG (coL C s).toArray] W fun o w'=>cK o SP/\Bl W w'):=hz;have HIR:Hid (∀ W v l m,Calls Tp 118 #[I J v,I J l,I J m] W fun o w'=>o = rT (bO (decide (l<=v/\v<=m)))/\W=w'):=dh;have H0:Hid (ctS w w.heap.size C s (w.alloc (.cells (coL C s).toArray 43))):=ctS.new w C s;have y0:=H0.o.p.cell 0 (I J C.p) rfl;clear hv hc hm hz;go_enter Tryz.func60,Tryz.ntmps60;generalize hW0:w.alloc (.cells (coL C s).toArray 43)=W0 at *;by_cases hin:0<=C.p/\C.p<=7
 .have din:decide (0<=C.p/\C.p<=7)=true:=by simpa using hin
  have HIN:Hid (0<=C.p/\C.p<=7):=hin;have HC:Hid (∀ W,Bl w W->Calls Tp 120 #[aG (coL C s).toArray] W fun o w'=>cK o CP/\Bl W w'):=HC0.o hin;have HM:Hid (∀ W,Bl w W->Calls Tp 121 #[aG (coL C s).toArray] W fun o w'=>cK o MP/\Bl W w'):=HM0.o hin
  clear hin HC0 HM0;go_wp2_with (first
   | (go_at_call 118;refine (HIR.o _ _ _ _).mono ?_;rintro o w2 ⟨rfl,rfl⟩)
   | (refine di (by first | rfl | (simp[Region.wanted,yielded];done) | (simp[Region.wanted,yielded];omega)) 41 (.tmp 8) rfl w.heap.size 11 rfl (hoL C.ho s) _ H0.o.p.hostAt Tryz.underlying41 rfl (jT C.ho s) ?_))
  clear hW0;refine (HV.o _ H0.o.b).mono ?_;rintro o w1 ⟨⟨b,rfl,hvp⟩,hb1⟩;have H1:Hid (ctS w w.heap.size C s w1):=H0.o.below hb1;clear hb1 H0 HV y0;cases b
  .go_wp2_with fail;go_ret;exact⟨⟨false,rfl,by simp only[qN,false_iff];rintro⟨_,h,_⟩;exact Qz (hvp.2 h) pQ⟩,H1.o.b⟩
  have HVP:Hid VP:=hvp.1 rfl;have HS:Hid (∀ W,Bl w W->Calls Tp 122 #[aG (coL C s).toArray] W fun o w'=>cK o SP/\Bl W w'):=HZ0.o HVP.o;clear hvp HZ0;go_wp2_with fail;refine QK (S:=fun X=>ctS w w.heap.size C s X) kr ?_;have hS:ctS w w.heap.size C s (World.drew w1):=H1.o.below (bW _ _).drew;clear H1;change wpAnyH Tp _ _ _ _ _ _ _ (World.drew w1);generalize World.drew w1=v0 at *;refine wU 0 (aG (coL C s).toArray) rfl (QM (by rfl) 43 (.tmp 1) rfl w.heap.size 0 rfl (coL C s) _ (fun X h=>h.p.load) Tryz.underlying43 rfl (cy C s)) hS ?_;simp only[Act.put,aA,aB,aC,aD,aE];refine al 1 fun K2 hK2=>?_;go_simp;refine (HC.o _ hS.b).mono ?_;rintro o v1 ⟨⟨b,rfl,hx⟩,hb⟩;have hS1:=hS.below hb;have HXC:Hid (b=true↔CP):=hx;clear hb hx;go_wp2_with fail;refine hK2.out _ _ hS1 (fun hS2=>?_);clear hK2 K2 hS1 hS;have hS:=hS2;clear hS2;cases b
  .refine tk 2 ?_;refine tn 3 ?_;refine tn 4 ?_;refine tk 5 ?_;refine tk 6 ?_;refine tn 7 ?_;refine tn 8 ?_;refine tn 9 ?_;refine tn 10 ?_;refine tn 11 ?_;refine tn 12 ?_;refine tn 13 ?_;refine tn 14 ?_;refine tn 15 ?_;refine tn 16 ?_;refine tk 17 ?_;refine tk 18 ?_;refine QI kr ?_ _;go_wp2_with fail;go_ret;exact⟨⟨_,rfl,by simp only[qN,false_iff];rintro⟨_,_,h,_⟩;exact Qz (HXC.o.2 h) pQ⟩,hS.b⟩
  refine tk 2 ?_;refine wU 3 (aG (coL C s).toArray) rfl (QM (by rfl) 43 (.tmp 1) rfl w.heap.size 0 rfl (coL C s) _ (fun X h=>h.p.load) Tryz.underlying43 rfl (cy C s)) hS ?_;simp only[aZ];refine al 4 fun K2 hK2=>?_;go_simp;refine (HM.o _ hS.b).mono ?_;rintro o v2 ⟨⟨b,rfl,hx⟩,hb⟩;have hS1:=hS.below hb;have HXM:Hid (b=true↔MP):=hx;clear hb hx;go_wp2_with fail;refine hK2.out _ _ hS1 (fun hS2=>?_);clear hK2 K2 hS1 hS;have hS:=hS2;clear hS2;cases b
  .refine tk 5 ?_;refine tk 6 ?_;refine tn 7 ?_;refine tn 8 ?_;refine tn 9 ?_;refine tn 10 ?_;refine tn 11 ?_;refine tn 12 ?_;refine tn 13 ?_;refine tn 14 ?_;refine tn 15 ?_;refine tn 16 ?_;refine tk 17 ?_;refine tk 18 ?_;refine QI kr ?_ _;go_wp2_with fail;go_ret;exact⟨⟨_,rfl,by simp only[qN,false_iff];rintro⟨_,_,_,h,_⟩;exact Qz (HXM.o.2 h) pQ⟩,hS.b⟩
  refine tk 5 ?_;refine tk 6 ?_;refine wU 7 (aG (coL C s).toArray) rfl (QM (by rfl) 43 (.tmp 1) rfl w.heap.size 0 rfl (coL C s) _ (fun X h=>h.p.load) Tryz.underlying43 rfl (cy C s)) hS ?_;simp only[aZ];refine tk 9 ?_;refine tk 10 ?_ (hy:=fun W hSw=>by (have y:=hSw.p.cell 0 (I J C.p) rfl;go_simp;try rfl));by_cases hp1:C.p=1
  .have dp1:(C.p == 1)=true:=by simpa using hp1
   refine tk 11 ?_;refine al 8 fun K2 hK2=>?_;go_simp;refine (HS.o _ hS.b).mono ?_;rintro o v3 ⟨⟨b,rfl,hx⟩,hb⟩;have hS1:=hS.below hb;have HXS:Hid (b=true↔SP):=hx;clear hb hx;go_wp2_with fail;refine hK2.out _ _ hS1 (fun hS2=>?_);clear hK2 K2 hS1 hS;have hS:=hS2;clear hS2;refine tk 12 ?_;refine tk 13 ?_;refine tk 14 ?_ (hy:=fun W hSw=>by (have y:=hSw.p.cell 6 (bO C.tx) rfl;go_simp;try rfl));refine tk 15 ?_;refine tk 16 ?_;refine tk 17 ?_;refine tk 18 ?_;have h1:=HXC.o.1 pQ;have h2:=HXM.o.1 pQ;have h3:=HXS.o;have h4:=HVP.o;have h5:=HIN.o;refine QI kr ?_ _;go_wp2_with fail;go_ret;refine⟨⟨_,rfl,?_⟩,hS.b⟩;simp only[h1,h2,h4,h5,true_and,<- h3];generalize C.tx=q;cases b <;> cases q <;> simp[hp1]
  .have dp1:(C.p == 1)=false:=by simpa using hp1
   refine tk 11 ?_;refine al 8 fun K2 hK2=>?_;go_simp;refine (HS.o _ hS.b).mono ?_;rintro o v3 ⟨⟨b,rfl,hx⟩,hb⟩;have hS1:=hS.below hb;have HXS:Hid (b=true↔SP):=hx;clear hb hx;go_wp2_with fail;refine hK2.out _ _ hS1 (fun hS2=>?_);clear hK2 K2 hS1 hS;have hS:=hS2;clear hS2;refine tk 12 ?_;refine tn 13 ?_;refine tn 14 ?_;refine tk 15 ?_;refine tk 16 ?_;refine tk 17 ?_;refine tk 18 ?_;have h1:=HXC.o.1 pQ;have h2:=HXM.o.1 pQ;have h3:=HXS.o;have h4:=HVP.o;have h5:=HIN.o;refine QI kr ?_ _;go_wp2_with fail;go_ret;refine⟨⟨_,rfl,?_⟩,hS.b⟩;simp only[h1,h2,h4,h5,true_and,<- h3];cases b <;> simp[hp1]
 .have din:decide (0<=C.p/\C.p<=7)=false:=by simpa using hin
  go_wp2_with (go_at_call 118;refine (HIR.o _ _ _ _).mono ?_;rintro o w2 ⟨rfl,rfl⟩)
  go_ret;exact⟨⟨false,rfl,by simp only[qN,false_iff];rintro⟨h,_⟩;exact hin h⟩,H0.o.b⟩
open Go renaming World->Wd
structure g9 (C:Co):Prop where
 h:dP C.ho
 m:okM C
 s:(C.p=1/\C.tx=true)↔wrP C.ho.bx
def Dw {p:Int} (h0:¬ p<0) (h7:¬ 7<p):p=0\/p=1\/p=2\/p=3\/p=4\/p=5\/p=6\/p=7:=om
def aK.two {w:Wd} {H:Ho} {s:Sl} (h:aK w H s) (hok:dP H):s.n2<=1000:=by
 have h1:=h.bx.len;have h2:=hok.n2;omega
def Fr (w:Wd) (H:Ho) (s:Sl) (h:aK w H s) (hok:dP H):Calls Tp 86 #[aG (hoL H s).toArray] w fun o w'=>∃ r:Int,o = rT (I J r)/\(0<=r↔wrP H.bx)/\Bl w w':=by
 refine (ln w H s h.bx (h.two hok)).mono ?_;rintro o w' ⟨r,rfl,hb,h2⟩;refine⟨r,rfl,?_,h2⟩;have:=Cc hb;unfold wrP;rw[<- this];omega
def cK.to {o:Ending} {P Q:Prop} (h:cK o P) (e:P↔Q):cK o Q:=by
 obtain⟨b,h1,h2⟩:=h;exact⟨b,h1,h2.trans e⟩
def ra (w:Wd) (C:Co) (s:Sl) (h:aK w C.ho s) (hn:C.ho.le 1048576) :
  Calls Tp 52 #[aG (coL C s).toArray] w fun o w'=>cK o (g9 C)/\Bl w w':=by
 refine (EU w C s (dP C.ho) (wrP C.ho.bx) (fun W hW=>by rw[<- gR];exact Jp W C.ho s (h.below hW) hn) (fun hok W hW=>Fr W C.ho s (h.below hW) hok)).mono ?_;rintro o w' ⟨hr,hb⟩;exact⟨hr.to ⟨fun x=>⟨x.1,x.2.1,x.2.2⟩,fun x=>⟨x.h,x.m,x.s⟩⟩,hb⟩
def FQ {p:Int} (h:0<=p/\p<=7):∃ n,∀ W,(Instr.index 149 (aG prL.toArray) (I J p)).run Tp W = .ok (aG #[I J (rLo p),I J (rHi p),.func (.func n) #[] #[]]) W:=by
 rcases Dw (p:=p) om om with rfl|rfl|rfl|rfl|rfl|rfl|rfl|rfl
 .exact⟨_,E8⟩
 .exact⟨_,E7⟩
 .exact⟨_,E6⟩
 .exact⟨_,E5⟩
 .exact⟨_,E0⟩
 .exact⟨_,EZ⟩
 .exact⟨_,EY⟩
 .exact⟨_,EX⟩
def Dc (C:Co):vmB C=true↔(((((((((0<=C.lv/\C.lv<=1)/\(C.lv=1->C.p=2/\C.wk=true/\0<C.ct))/\(C.wk=true->C.p=2/\C.ov=false))/\(C.ov=true->C.p=2\/C.p=3\/C.p=4))/\(C.ow=true->C.wk=true/\C.tx=true))/\(C.tx=true->C.p≠7/\C.p≠0))/\(C.p=6->C.tx=true))/\(C.ak=true->C.p=7))):=by
 unfold vmB;simp only[qx,Bool.not_eq_true'];rw[j1,k5,k6,k7,j5,j6,j7]
def iJ (w:Wd) (C:Co) (s:Sl) (h:aK w C.ho s) (hn:C.ho.le 1048576) :
  Calls Tp 60 #[aG (coL C s).toArray] w fun o w'=>cK o (g9 C)/\Bl w w':=by
 have hv:∀ W,Bl w W->Calls Tp 119 #[aG (hoL C.ho s).toArray] W fun o w'=>cK o (dP C.ho)/\Bl W w':=fun W hW=>lO W C.ho s (h.below hW) hn;have hz:dP C.ho->∀ W,Bl w W->Calls Tp 122 #[aG (coL C s).toArray] W fun o w'=>cK o (wrP C.ho.bx)/\Bl W w':=fun hok W hW=>ml W C s (h.below hW).bx (h.two hok);by_cases hin:0<=C.p/\C.p<=7
 .obtain⟨n,hix⟩:=FQ hin;refine (iI w C s (dP C.ho) _ _ (wrP C.ho.bx) hv (fun _ W _=>vcG W C s _ _ n hix) (fun _ W _=>vmG W C s) hz).mono ?_;rintro o w' ⟨hr,hb⟩;refine⟨hr.to ?_,hb⟩;rw[Dc];constructor
  .rintro⟨_,hh,⟨t1,t2,t3,t4,t5,t6⟩,⟨⟨⟨⟨⟨⟨⟨v1,v2⟩,v3⟩,v4⟩,v5⟩,v6⟩,v7⟩,v8⟩,hs⟩;refine⟨hh,⟨hin,t1,t2,t3,t4,v1,v2,v3,v4,v5,v6,v7,v8,om,fun ha=>?_⟩,hs⟩;rcases t6 with⟨_,x⟩|⟨x,y⟩
   .rw[ha] at x;cases x
   .exact⟨x,fun e=>y.resolve_left (fun z=>z e)⟩
  .intro x;refine⟨hin,x.h,⟨x.m.te,x.m.re,x.m.of,x.m.ct,by have:=x.m.rn;omega,?_⟩,⟨⟨⟨⟨⟨⟨⟨x.m.lv,x.m.l1⟩,x.m.wk⟩,x.m.ov⟩,x.m.ow⟩,x.m.tx⟩,x.m.t6⟩,x.m.ak⟩,x.s⟩;cases ha:C.ak
   .refine qy ⟨(x.m.na ha).1,?_⟩;by_cases e:C.p=7
    .exact qy ((x.m.na ha).2 e)
    .exact qr e
   .exact qr ⟨x.m.ak ha,rfl⟩
 .refine (iI w C s (dP C.ho) True True (wrP C.ho.bx) hv (fun x=>Qz x hin) (fun x=>Qz x hin) hz).mono ?_;rintro o w' ⟨hr,hb⟩;exact⟨hr.to ⟨fun x=>Qz x.1 hin,fun x=>Qz x.m.p hin⟩,hb⟩
def FP (W:Wd) (C:Co) (s:Sl) (h:aK W C.ho s) (hn:C.ho.le 1048576) (hok:g9 C):Calls Tp 52 #[aG (coL C s).toArray] W fun o w'=>o = rT (bO true)/\Bl W w':=(ra W C s h hn).mono (by rintro o w' ⟨⟨b,rfl,hb⟩,h2⟩;rw[hb.2 hok];exact⟨rfl,h2⟩)
def Fv (W:Wd) (C:Co) (s:Sl) (h:aK W C.ho s) (hn:C.ho.le 1048576) (hok:¬ g9 C):Calls Tp 52 #[aG (coL C s).toArray] W fun o w'=>o = rT (bO false)/\Bl W w':=(ra W C s h hn).mono (by rintro o w' ⟨⟨b,rfl,hb⟩,h2⟩;cases b;exact⟨rfl,h2⟩;exact Qz (hb.1 rfl) hok)
def Kj (W:Wd) (C:Co) (s:Sl) (h:aK W C.ho s) (hn:C.ho.le 1048576) (hok:g9 C):Calls Tp 60 #[aG (coL C s).toArray] W fun o w'=>o = rT (bO true)/\Bl W w':=(iJ W C s h hn).mono (by rintro o w' ⟨⟨b,rfl,hb⟩,h2⟩;rw[hb.2 hok];exact⟨rfl,h2⟩)
def J9 (W:Wd) (C:Co) (s:Sl) (h:aK W C.ho s) (hn:C.ho.le 1048576) (hok:¬ g9 C):Calls Tp 60 #[aG (coL C s).toArray] W fun o w'=>o = rT (bO false)/\Bl W w':=(iJ W C s h hn).mono (by rintro o w' ⟨⟨b,rfl,hb⟩,h2⟩;cases b;exact⟨rfl,h2⟩;exact Qz (hb.1 rfl) hok)
def MKQ (B:Nat) (T:Ho) (sg:Sl) (w:World):Prop:=∀ W,(∀ x,B<=x->x<w.heap.size->W.heap[x]?=w.heap[x]?)->w.heap.size<=W.heap.size->Calls Tp 71 #[aG (hoL T sg).toArray,I J 1] W fun o w1=>∃ k:Nat,o = rT (I J (k:Int))/\k<=100000000000000/\Below B W w1/\(∀ x,w.heap.size<=x->x<W.heap.size->w1.heap[x]?=W.heap[x]?)/\∀ W2,(∀ x,B<=x->x<w.heap.size->W2.heap[x]?=w1.heap[x]?)->w.heap.size<=W2.heap.size->Calls Tp 74 #[aG (hoL T sg).toArray,I J 1] W2 fun o w2=>o = rT (I J (k:Int))/\Bl W2 w2
def whS.mkq {B:Nat} {w:World} {s:Wh} {H:Ho} (h:whS B w.heap.size w s) (hd:whD s) (he:whE s):MKQ B H s.sl w:=by
 intro W hW hz;have hs:whS B w.heap.size W s:=h.same hW;refine (ji B w.heap.size W H.c0 H.c1 H.c2 H.c3 H.lo H.st s 1 hs hd hz om).mono ?_;rintro o w1 ⟨rfl,hm,hs1,ho,hb⟩;refine⟨s.c4 1,rfl,nT (hs.c4 om) (by decide),hb,fun x h1 h2=>ho x (qy h1) h2,fun W2 hW2 hz2=>?_⟩;have hs2:whS B w.heap.size W2 s:=hs1.same hW2;have hm2:whM W2 s 1:=(hm he).same hs1 hW2;exact oG B w.heap.size W2 H.c0 H.c1 H.c2 H.c3 H.lo H.st s 1 hs2 hm2 hz2 om
def Ay (B:Nat) (w:World) (hB:B<=w.heap.size):MKQ B zHo zSl w:=by
 intro W hW hz;refine (GU W 0 0 0 0 0 0 1 om).mono ?_;rintro o w1 ⟨rfl,hb⟩;refine⟨1,rfl,by decide,hb.mono om,fun x _ h2=>hb.block x h2,fun W2 _ _=>?_⟩;refine (Ko W2 0 0 0 0 0 0 1 om).mono ?_;rintro o w2 ⟨rfl,hb2⟩;exact⟨rfl,hb2⟩
def CX {B T:Nat} {W:World} {sx:Wh} {H:Ho} (h:whS B T W sx) (hd:whD sx) (hT:T<=W.heap.size):Calls Tp 71 #[aG (hoL H sx.sl).toArray,I J 1] W fun o w1=>∃ k:Nat,o = rT (I J (k:Int))/\(∀ x,T<=x->x<W.heap.size->w1.heap[x]?=W.heap[x]?)/\Below B W w1/\k<=100000000000000:=by
 refine (ji B T W H.c0 H.c1 H.c2 H.c3 H.lo H.st sx 1 h hd hT om).mono ?_;rintro o w1 ⟨rfl,_,_,q,hb⟩;exact⟨_,rfl,fun x h1 h2=>q x (qy h1) h2,hb,nT (h.c4 om) (by decide)⟩
def FH (X:World) (H:Ho) (s:Sl) (h:aK X H s) (hm:H.le 1048576):Calls Tp 59 #[aG (hoL H s).toArray] X fun o w'=>∃ s':Wh,o = rT (aG (hoL H s'.sl).toArray)/\St X.heap.size w' (fun W=>aK W H s'.sl)/\whS X.heap.size w'.heap.size w' s'/\whD s'/\dz s'.sl/\Bl X w':=by
 rw[<- gR];refine (vC X H s h hm).mono ?_;rintro o w' ⟨s',rfl,h1,h2⟩;have hs:dz s':=by
  obtain⟨g1,g2,_,_,_,_,_,e,_⟩:=h1.now.2.e;rw[e];exact⟨⟨g1,rfl⟩,⟨g2,rfl⟩⟩
 obtain⟨s2,rfl,h3,h4⟩:=h1.now.2.wh h1.now.1 hm;exact⟨s2,by rw[gR],fun W hW=>(h1 W hW).1,h3,h4,hs,h2⟩
end Go.Proofs.YtnfmjckkibdcaaaGreatDoor
