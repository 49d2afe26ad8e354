import Derived.Test.YtgfolecanghhhaaGreatK21
import Derived.Test.YtgfolecanghhhaaGreatK26
import Derived.Deep.RegionHeld3
import Derived.Deep.RegionLaw
import Derived.Deep.DeepCutAuto
namespace Go.Proofs.YtgfolecanghhhaaGreat
open Go.RowKit
set_option linter.all false
abbrev zHo:Ho:=⟨0,0,0,0,[],[],[],[],0,0⟩
abbrev zSl:Sl:=⟨none,0,0,none,0,0,none,0,0,none,0,0⟩
def CT (W:World):aK W zHo zSl:=⟨⟨rfl,nR _,fun e=>Qy rfl e⟩,⟨rfl,nR _,fun e=>Qy rfl e⟩,⟨rfl,nR _,fun e=>Qy rfl e⟩,⟨rfl,nR _,fun e=>Qy rfl e⟩⟩
def whS.mono {B T B' T':Nat} {W:World} {s:Wh} (h:whS B T W s) (hB:B'<=B) (hT:T<=T'):whS B' T' W s:=
 ⟨h.f,h.fc,⟨by have:=h.fb.1;omega,by have:=h.fb.2;omega⟩,h.x,h.xb.mono hB hT,h.r,h.rb.mono hB hT,h.q,h.qb.mono hB hT,h.m1,h.m2,h.m3,h.m4⟩
def pn.put {w w3 w4 w8:World} {H:Ho} {s4:Wh} {R:Nat} (hz:w.heap.size<=w3.heap.size) (hR:R<w3.heap.size) (q1:St w3.heap.size w4 (fun W=>aK W H s4.sl)) (q2:whS w3.heap.size w4.heap.size w4 s4) (oth:∀ x,x≠R->w8.heap[x]?=w4.heap[x]?) (hs:w8.heap.size=w4.heap.size):St w.heap.size w8 (fun W=>aK W H s4.sl)/\whS w.heap.size w8.heap.size w8 s4:=by
 refine⟨fun W hW=>q1 W (fun x h1 h2=>(hW x om om).trans (oth x om)),?_⟩;rw[hs];exact (q2.same (fun x h1 h2=>oth x om)).mono hz (nR _)
open Go.Proofs.Tryz
set_option maxRecDepth 20000
set_option maxHeartbeats 16000000
open Go.Value renaming int->I,slice->sL,bool->bO,pointer->pT,agg->aG
open Go.IntKind renaming i64->J
open Go.Ending renaming returned->rT
open Go.Proofs.Tryz renaming prog->Tp
def iI (w:World) (C:Co) (s:Sl) (VP CP MP SP:Prop) (hv:∀ W,Bl w W->Calls Tp 80 #[aG (hoL C.ho s).toArray] W fun o w'=>cK o VP/\Bl W w')
  (hc:(0<=C.p/\C.p<=7)->∀ W,Bl w W->Calls Tp 81 #[aG (coL C s).toArray] W fun o w'=>cK o CP/\Bl W w')
  (hm:(0<=C.p/\C.p<=7)->∀ W,Bl w W->Calls Tp 82 #[aG (coL C s).toArray] W fun o w'=>cK o MP/\Bl W w')
  (hz:VP->∀ W,Bl w W->Calls Tp 83 #[aG (coL C s).toArray] W fun o w'=>cK o SP/\Bl W w') :
  Calls Tp 36 #[aG (coL C s).toArray] w fun o w'=>cK o ((0<=C.p/\C.p<=7)/\VP/\CP/\MP/\((C.p=1/\C.tx=true)↔SP))/\Bl w w':=by
 have HV:Hid (∀ W,Bl w W->Calls Tp 80 #[aG (hoL C.ho s).toArray] W fun o w'=>cK o VP/\Bl W w'):=hv;have HC0:Hid ((0<=C.p/\C.p<=7)->∀ W,Bl w W->Calls Tp 81 #[aG (coL C s).toArray] W fun o w'=>cK o CP/\Bl W w'):=hc;have HM0:Hid ((0<=C.p/\C.p<=7)->∀ W,Bl w W->Calls Tp 82 #[aG (coL C s).toArray] W fun o w'=>cK o MP/\Bl W w'):=hm;have HZ0:Hid (VP->∀ W,Bl w W->Calls Tp 83 #[aG (coL C s).toArray] W fun o w'=>cK o SP/\Bl W w'):=hz;have HIR:Hid (∀ W v l m,Calls Tp 79 #[I J v,I J l,I J m] W fun o w'=>o = rT (bO (decide (l<=v/\v<=m)))/\W=w'):=dh;have H0:Hid (ctS w w.heap.size C s (w.alloc (.cells (coL C s).toArray 43))):=ctS.new w C s;have y0:=H0.o.p.cell 0 (I J C.p) rfl;clear hv hc hm hz;go_enter func36,ntmps36;generalize hW0:w.alloc (.cells (coL C s).toArray 43)=W0 at *;by_cases hin:0<=C.p/\C.p<=7
 .have din:decide (0<=C.p/\C.p<=7)=true:=by simpa using hin
  have HIN:Hid (0<=C.p/\C.p<=7):=hin;have HC:Hid (∀ W,Bl w W->Calls Tp 81 #[aG (coL C s).toArray] W fun o w'=>cK o CP/\Bl W w'):=HC0.o hin;have HM:Hid (∀ W,Bl w W->Calls Tp 82 #[aG (coL C s).toArray] W fun o w'=>cK o MP/\Bl W w'):=HM0.o hin
  clear hin HC0 HM0;go_wp2_with (first
   | (go_at_call 79;refine (HIR.o _ _ _ _).mono ?_;rintro o w2 ⟨rfl,rfl⟩)
   | (refine di (by first | rfl | (simp[Region.wanted,yielded];done) | (simp[Region.wanted,yielded];omega)) 41 (.tmp 8) rfl w.heap.size 11 rfl (hoL C.ho s) _ H0.o.p.hostAt underlying41 rfl (jT C.ho s) ?_))
  clear hW0;refine (HV.o _ H0.o.b).mono ?_;rintro o w1 ⟨⟨b,rfl,hvp⟩,hb1⟩;have H1:Hid (ctS w w.heap.size C s w1):=H0.o.below hb1;clear hb1 H0 HV y0;cases b
  .go_wp2_with fail;go_ret;exact⟨⟨false,rfl,by simp only[qM,false_iff];rintro⟨_,h,_⟩;exact Qy (hvp.2 h) pQ⟩,H1.o.b⟩
  have HVP:Hid VP:=hvp.1 rfl;have HS:Hid (∀ W,Bl w W->Calls Tp 83 #[aG (coL C s).toArray] W fun o w'=>cK o SP/\Bl W w'):=HZ0.o HVP.o;clear hvp HZ0;go_wp2_with fail;refine QJ (S:=fun X=>ctS w w.heap.size C s X) kr ?_;have hS:ctS w w.heap.size C s (World.drew w1):=H1.o.below (bW _ _).drew;clear H1;change wpAnyH Tp _ _ _ _ _ _ _ (World.drew w1);generalize World.drew w1=v0 at *;refine wU 0 (aG (coL C s).toArray) rfl (QL (by rfl) 43 (.tmp 1) rfl w.heap.size 0 rfl (coL C s) _ (fun X h=>h.p.load) underlying43 rfl (cy C s)) hS ?_;simp only[Act.put,aA,aB,aC,aD,aE];refine al 1 fun K2 hK2=>?_;go_simp;refine (HC.o _ hS.b).mono ?_;rintro o v1 ⟨⟨b,rfl,hx⟩,hb⟩;have hS1:=hS.below hb;have HXC:Hid (b=true↔CP):=hx;clear hb hx;go_wp2_with fail;refine hK2.out _ _ hS1 (fun hS2=>?_);clear hK2 K2 hS1 hS;have hS:=hS2;clear hS2;cases b
  .refine tk 2 ?_;refine tn 3 ?_;refine tn 4 ?_;refine tk 5 ?_;refine tk 6 ?_;refine tn 7 ?_;refine tn 8 ?_;refine tn 9 ?_;refine tn 10 ?_;refine tn 11 ?_;refine tn 12 ?_;refine tn 13 ?_;refine tn 14 ?_;refine tn 15 ?_;refine tn 16 ?_;refine tk 17 ?_;refine tk 18 ?_;refine QH kr ?_ _;go_wp2_with fail;go_ret;exact⟨⟨_,rfl,by simp only[qM,false_iff];rintro⟨_,_,h,_⟩;exact Qy (HXC.o.2 h) pQ⟩,hS.b⟩
  refine tk 2 ?_;refine wU 3 (aG (coL C s).toArray) rfl (QL (by rfl) 43 (.tmp 1) rfl w.heap.size 0 rfl (coL C s) _ (fun X h=>h.p.load) underlying43 rfl (cy C s)) hS ?_;simp only[aZ];refine al 4 fun K2 hK2=>?_;go_simp;refine (HM.o _ hS.b).mono ?_;rintro o v2 ⟨⟨b,rfl,hx⟩,hb⟩;have hS1:=hS.below hb;have HXM:Hid (b=true↔MP):=hx;clear hb hx;go_wp2_with fail;refine hK2.out _ _ hS1 (fun hS2=>?_);clear hK2 K2 hS1 hS;have hS:=hS2;clear hS2;cases b
  .refine tk 5 ?_;refine tk 6 ?_;refine tn 7 ?_;refine tn 8 ?_;refine tn 9 ?_;refine tn 10 ?_;refine tn 11 ?_;refine tn 12 ?_;refine tn 13 ?_;refine tn 14 ?_;refine tn 15 ?_;refine tn 16 ?_;refine tk 17 ?_;refine tk 18 ?_;refine QH kr ?_ _;go_wp2_with fail;go_ret;exact⟨⟨_,rfl,by simp only[qM,false_iff];rintro⟨_,_,_,h,_⟩;exact Qy (HXM.o.2 h) pQ⟩,hS.b⟩
  refine tk 5 ?_;refine tk 6 ?_;refine wU 7 (aG (coL C s).toArray) rfl (QL (by rfl) 43 (.tmp 1) rfl w.heap.size 0 rfl (coL C s) _ (fun X h=>h.p.load) underlying43 rfl (cy C s)) hS ?_;simp only[aZ];refine tk 9 ?_;refine tk 10 ?_ (hy:=fun W hSw=>by (have y:=hSw.p.cell 0 (I J C.p) rfl;go_simp;try rfl));by_cases hp1:C.p=1
  .have dp1:(C.p == 1)=true:=by simpa using hp1
   refine tk 11 ?_;refine al 8 fun K2 hK2=>?_;go_simp;refine (HS.o _ hS.b).mono ?_;rintro o v3 ⟨⟨b,rfl,hx⟩,hb⟩;have hS1:=hS.below hb;have HXS:Hid (b=true↔SP):=hx;clear hb hx;go_wp2_with fail;refine hK2.out _ _ hS1 (fun hS2=>?_);clear hK2 K2 hS1 hS;have hS:=hS2;clear hS2;refine tk 12 ?_;refine tk 13 ?_;refine tk 14 ?_ (hy:=fun W hSw=>by (have y:=hSw.p.cell 6 (bO C.tx) rfl;go_simp;try rfl));refine tk 15 ?_;refine tk 16 ?_;refine tk 17 ?_;refine tk 18 ?_;have h1:=HXC.o.1 pQ;have h2:=HXM.o.1 pQ;have h3:=HXS.o;have h4:=HVP.o;have h5:=HIN.o;refine QH kr ?_ _;go_wp2_with fail;go_ret;refine⟨⟨_,rfl,?_⟩,hS.b⟩;simp only[h1,h2,h4,h5,true_and,<- h3];generalize C.tx=q;cases b <;> cases q <;> simp[hp1]
  .have dp1:(C.p == 1)=false:=by simpa using hp1
   refine tk 11 ?_;refine al 8 fun K2 hK2=>?_;go_simp;refine (HS.o _ hS.b).mono ?_;rintro o v3 ⟨⟨b,rfl,hx⟩,hb⟩;have hS1:=hS.below hb;have HXS:Hid (b=true↔SP):=hx;clear hb hx;go_wp2_with fail;refine hK2.out _ _ hS1 (fun hS2=>?_);clear hK2 K2 hS1 hS;have hS:=hS2;clear hS2;refine tk 12 ?_;refine tn 13 ?_;refine tn 14 ?_;refine tk 15 ?_;refine tk 16 ?_;refine tk 17 ?_;refine tk 18 ?_;have h1:=HXC.o.1 pQ;have h2:=HXM.o.1 pQ;have h3:=HXS.o;have h4:=HVP.o;have h5:=HIN.o;refine QH kr ?_ _;go_wp2_with fail;go_ret;refine⟨⟨_,rfl,?_⟩,hS.b⟩;simp only[h1,h2,h4,h5,true_and,<- h3];cases b <;> simp[hp1]
 .have din:decide (0<=C.p/\C.p<=7)=false:=by simpa using hin
  go_wp2_with (go_at_call 79;refine (HIR.o _ _ _ _).mono ?_;rintro o w2 ⟨rfl,rfl⟩)
  go_ret;exact⟨⟨false,rfl,by simp only[qM,false_iff];rintro⟨h,_⟩;exact hin h⟩,H0.o.b⟩
structure MV (C:Co):Prop where
 h:dP C.ho
 m:okM C
 s:(C.p=1/\C.tx=true)↔wrP C.ho.bx
def Dw {p:Int} (h0:¬ p<0) (h7:¬ 7<p):p=0\/p=1\/p=2\/p=3\/p=4\/p=5\/p=6\/p=7:=om
def aK.two {w:World} {H:Ho} {s:Sl} (h:aK w H s) (hok:dP H):s.n2<=1000:=by
 have h1:=h.bx.len;have h2:=hok.n2;omega
def Fr (w:World) (H:Ho) (s:Sl) (h:aK w H s) (hok:dP H):Calls Tp 49 #[aG (hoL H s).toArray] w fun o w'=>∃ r:Int,o = rT (I J r)/\(0<=r↔wrP H.bx)/\Bl w w':=by
 refine (ln w H s h.bx (h.two hok)).mono ?_;rintro o w' ⟨r,rfl,hb,h2⟩;refine⟨r,rfl,?_,h2⟩;have:=Cc hb;unfold wrP;rw[<- this];omega
def cK.to {o:Ending} {P Q:Prop} (h:cK o P) (e:P↔Q):cK o Q:=by
 obtain⟨b,h1,h2⟩:=h;exact⟨b,h1,h2.trans e⟩
def ra (w:World) (C:Co) (s:Sl) (h:aK w C.ho s) (hn:C.ho.le 1048576) :
  Calls Tp 25 #[aG (coL C s).toArray] w fun o w'=>cK o (MV C)/\Bl w w':=by
 refine (EU w C s (dP C.ho) (wrP C.ho.bx) (fun W hW=>by rw[<- Gt];exact zf W C.ho s (h.below hW) hn) (fun hok W hW=>Fr W C.ho s (h.below hW) hok)).mono ?_;rintro o w' ⟨hr,hb⟩;exact⟨hr.to ⟨fun x=>⟨x.1,x.2.1,x.2.2⟩,fun x=>⟨x.h,x.m,x.s⟩⟩,hb⟩
def FQ {p:Int} (h:0<=p/\p<=7):∃ n,∀ W,(Instr.index 142 (aG prL.toArray) (I J p)).run Tp W = .ok (aG #[I J (rLo p),I J (rHi p),.func (.func n) #[] #[]]) W:=by
 rcases Dw (p:=p) om om with rfl|rfl|rfl|rfl|rfl|rfl|rfl|rfl
 .exact⟨_,E8⟩
 .exact⟨_,ME⟩
 .exact⟨_,E6⟩
 .exact⟨_,E5⟩
 .exact⟨_,E0⟩
 .exact⟨_,EZ⟩
 .exact⟨_,EY⟩
 .exact⟨_,EX⟩
def Dc (C:Co):vmB C=true↔(((((((((0<=C.lv/\C.lv<=1)/\(C.lv=1->C.p=2/\C.wk=true/\0<C.ct))/\(C.wk=true->C.p=2/\C.ov=false))/\(C.ov=true->C.p=2\/C.p=3\/C.p=4))/\(C.ow=true->C.wk=true/\C.tx=true))/\(C.tx=true->C.p≠7/\C.p≠0))/\(C.p=6->C.tx=true))/\(C.ak=true->C.p=7))):=by
 unfold vmB;simp only[qw,Bool.not_eq_true'];rw[j1,k5,k6,k7,j5,j6,j7]
def iJ (w:World) (C:Co) (s:Sl) (h:aK w C.ho s) (hn:C.ho.le 1048576) :
  Calls Tp 36 #[aG (coL C s).toArray] w fun o w'=>cK o (MV C)/\Bl w w':=by
 have hv:∀ W,Bl w W->Calls Tp 80 #[aG (hoL C.ho s).toArray] W fun o w'=>cK o (dP C.ho)/\Bl W w':=fun W hW=>lO W C.ho s (h.below hW) hn;have hz:dP C.ho->∀ W,Bl w W->Calls Tp 83 #[aG (coL C s).toArray] W fun o w'=>cK o (wrP C.ho.bx)/\Bl W w':=fun hok W hW=>ml W C s (h.below hW).bx (h.two hok);by_cases hin:0<=C.p/\C.p<=7
 .obtain⟨n,hix⟩:=FQ hin;refine (iI w C s (dP C.ho) _ _ (wrP C.ho.bx) hv (fun _ W _=>vcG W C s _ _ n hix) (fun _ W _=>vmG W C s) hz).mono ?_;rintro o w' ⟨hr,hb⟩;refine⟨hr.to ?_,hb⟩;rw[Dc];constructor
  .rintro⟨_,hh,⟨t1,t2,t3,t4,t5,t6⟩,⟨⟨⟨⟨⟨⟨⟨v1,v2⟩,v3⟩,v4⟩,v5⟩,v6⟩,v7⟩,v8⟩,hs⟩;refine⟨hh,⟨hin,t1,t2,t3,t4,v1,v2,v3,v4,v5,v6,v7,v8,om,fun ha=>?_⟩,hs⟩;rcases t6 with⟨_,x⟩|⟨x,y⟩
   .rw[ha] at x;cases x
   .exact⟨x,fun e=>y.resolve_left (fun z=>z e)⟩
  .intro x;refine⟨hin,x.h,⟨x.m.te,x.m.re,x.m.of,x.m.ct,by have:=x.m.rn;omega,?_⟩,⟨⟨⟨⟨⟨⟨⟨x.m.lv,x.m.l1⟩,x.m.wk⟩,x.m.ov⟩,x.m.ow⟩,x.m.tx⟩,x.m.t6⟩,x.m.ak⟩,x.s⟩;cases ha:C.ak
   .refine qx ⟨(x.m.na ha).1,?_⟩;by_cases e:C.p=7
    .exact qx ((x.m.na ha).2 e)
    .exact qr e
   .exact qr ⟨x.m.ak ha,rfl⟩
 .refine (iI w C s (dP C.ho) True True (wrP C.ho.bx) hv (fun x=>Qy x hin) (fun x=>Qy x hin) hz).mono ?_;rintro o w' ⟨hr,hb⟩;exact⟨hr.to ⟨fun x=>Qy x.1 hin,fun x=>Qy x.m.p hin⟩,hb⟩
def FP (W:World) (C:Co) (s:Sl) (h:aK W C.ho s) (hn:C.ho.le 1048576) (hok:MV C):Calls Tp 25 #[aG (coL C s).toArray] W fun o w'=>o = rT (bO true)/\Bl W w':=(ra W C s h hn).mono (by rintro o w' ⟨⟨b,rfl,hb⟩,h2⟩;rw[hb.2 hok];exact⟨rfl,h2⟩)
def Fv (W:World) (C:Co) (s:Sl) (h:aK W C.ho s) (hn:C.ho.le 1048576) (hok:¬ MV C):Calls Tp 25 #[aG (coL C s).toArray] W fun o w'=>o = rT (bO false)/\Bl W w':=(ra W C s h hn).mono (by rintro o w' ⟨⟨b,rfl,hb⟩,h2⟩;cases b;exact⟨rfl,h2⟩;exact Qy (hb.1 rfl) hok)
def xK (w:World) (C:Co) (o:Ending) (w':World):Prop:=∃ s4:Wh,o = rT (aG (coL C s4.sl).toArray)/\St w.heap.size w' (fun W=>aK W C.ho s4.sl)/\whS w.heap.size w'.heap.size w' s4/\whD s4/\whE s4/\Bl w w'
def wt {L:List Value} (w:World) (M P:Nat) (C:Co) (hm:blk w M (mcH P C++(L++prL)) 147) (ht:∀ X,Bl w X->Calls Tp 158 #[pT (some ⟨P,0,none⟩)] X (pn X C.ho)) :
  Calls Tp 93 #[pT (some ⟨M,0,none⟩)] w (xK w C):=by
 have HT:Hid (∀ X,Bl w X->Calls Tp 158 #[pT (some ⟨P,0,none⟩)] X (pn X C.ho)):=ht;have HA:Hid (Bl w (w.alloc (.cells Z21.toArray 43))):=Zw;have HM:Hid (blk (w.alloc (.cells Z21.toArray 43)) M (mcH P C++(L++prL)) 147/\blk (w.alloc (.cells Z21.toArray 43)) w.heap.size Z21 43/\Bl w (w.alloc (.cells Z21.toArray 43))):=⟨hm.below HA.o,blk.new w _ 43,HA.o⟩
 clear hm ht HA;go_enter func93,ntmps93;go_wp2_with fail;refine QJ (S:=fun X=>blk X M (mcH P C++(L++prL)) 147/\(∃ l:List Value,l.length=21/\blk X w.heap.size l 43)/\Bl w X) kr ?_;have hS:(fun X=>blk X M (mcH P C++(L++prL)) 147/\(∃ l:List Value,l.length=21/\blk X w.heap.size l 43)/\Bl w X) (World.drew (w.alloc (.cells Z21.toArray 43))):=⟨HM.o.1.below (bW _ _).drew,⟨Z21,rfl,HM.o.2.1.below (bW _ _).drew⟩,HM.o.2.2.drew⟩
 clear HM;change wpAnyH Tp _ _ _ _ _ _ _ (World.drew (w.alloc (.cells Z21.toArray 43)));generalize World.drew (w.alloc (.cells Z21.toArray 43))=v0 at *;refine tk 0 ?_;refine tk 1 ?_;refine tk 2 ?_;refine tk 3 ?_;refine tk 4 ?_ (hy:=fun W hSw=>by (have y:=hSw.1.cell 3 (I J C.p) rfl;go_simp;try rfl));refine tk 5 ?_;refine tk 6 ?_;refine tk 7 ?_;refine tk 8 ?_;refine tk 9 ?_ (hy:=fun W hSw=>by (have y:=hSw.1.cell 4 (I J C.ct) rfl;go_simp;try rfl));refine tk 10 ?_;refine tk 11 ?_;refine tk 12 ?_;refine tk 13 ?_;refine tk 14 ?_ (hy:=fun W hSw=>by (have y:=hSw.1.cell 5 (I J C.lv) rfl;go_simp;try rfl));refine tk 15 ?_;refine tk 16 ?_;refine tk 17 ?_;refine tk 18 ?_;refine tk 19 ?_ (hy:=fun W hSw=>by (have y:=hSw.1.cell 6 (bO C.wk) rfl;go_simp;try rfl));refine tk 20 ?_;refine tk 21 ?_;refine tk 22 ?_;refine tk 23 ?_;refine tk 24 ?_ (hy:=fun W hSw=>by (have y:=hSw.1.cell 7 (bO C.ov) rfl;go_simp;try rfl));refine tk 25 ?_;refine tk 26 ?_;refine tk 27 ?_;refine tk 28 ?_;refine tk 29 ?_ (hy:=fun W hSw=>by (have y:=hSw.1.cell 8 (bO C.ow) rfl;go_simp;try rfl));refine tk 30 ?_;refine tk 31 ?_;refine tk 32 ?_;refine tk 33 ?_;refine tk 34 ?_ (hy:=fun W hSw=>by (have y:=hSw.1.cell 9 (bO C.tx) rfl;go_simp;try rfl));refine tk 35 ?_;refine tk 36 ?_;refine tk 37 ?_;refine tk 38 ?_;refine tk 39 ?_ (hy:=fun W hSw=>by (have y:=hSw.1.cell 10 (bO C.ak) rfl;go_simp;try rfl));refine tk 40 ?_;refine tk 41 ?_;refine tk 42 ?_;refine tk 43 ?_;refine tk 44 ?_ (hy:=fun W hSw=>by (have y:=hSw.1.cell 11 (I J C.rn) rfl;go_simp;try rfl));refine tk 45 ?_;refine tk 46 ?_;refine tk 47 ?_;refine tk 48 ?_;refine tk 49 ?_ (hy:=fun W hSw=>by (have y:=hSw.1.cell 1 (I J C.te) rfl;go_simp;try rfl));refine tk 50 ?_;refine tk 51 ?_;refine tk 52 ?_;refine tk 53 ?_;refine tk 54 ?_ (hy:=fun W hSw=>by (have y:=hSw.1.cell 2 (I J C.re) rfl;go_simp;try rfl));refine tk 55 ?_;refine tk 56 ?_;refine tk 57 ?_;refine tk 58 ?_;refine tk 59 ?_ (hy:=fun W hSw=>by (have y:=hSw.1.cell 0 (pT (some ⟨P,0,none⟩)) rfl;go_simp;try rfl));refine al 60 fun K2 hK2=>?_;go_simp;refine (HT.o _ hS.2.2).mono ?_;rintro o w2 ⟨s4,rfl,q1,q2,q3,q4,hb⟩;have hS2:(fun X=>blk X M (mcH P C++(L++prL)) 147/\(∃ l:List Value,l.length=21/\blk X w.heap.size l 43)/\Bl w X) w2:=⟨hS.1.below hb,(by obtain⟨l,h1,h2⟩:=hS.2.1;exact⟨l,h1,h2.below hb⟩),hS.2.2.trans (hb.mono hS.2.2.size)⟩
 have HQ:Hid (St v0.heap.size w2 (fun W=>aK W C.ho s4.sl)/\whS v0.heap.size w2.heap.size w2 s4/\whD s4/\whE s4):=⟨q1,q2,q3,q4⟩
 have HZ:Hid (w.heap.size<=v0.heap.size/\w.heap.size<v0.heap.size):=⟨hS.2.2.size,(by obtain⟨l,h1,h2⟩:=hS.2.1;exact h2.lt)⟩
 clear q1 q2 q3 q4 hb;go_wp2_with fail;refine hK2.out _ _ hS2 (fun hS3=>?_);clear hK2 K2 hS2 hS;have hS:=hS3;clear hS3;refine tk 61 (v:=aG (coL C s4.sl).toArray) ?_ (hy:=fun W hSw=>by (simp only[coL,hoL];go_simp;try rfl));refine al 62 fun K2 hK2=>?_;rw[qc (by rfl)];obtain⟨l0,hl0,hbl⟩:=hS.2.1;have HL0:Hid (l0.length=21/\blk w2 w.heap.size l0 43):=⟨hl0,hbl⟩
 refine QT 43 (.tmp 2) (.tmp 64) rfl w.heap.size 0 (coL C s4.sl).toArray rfl rfl (hbl.there 0 _ (by rw[qR,cL,hl0];decide)) (nO C s4.sl) (cO C s4.sl) ?_;generalize hW8:World.setCells w2 w.heap.size 0 _=w8
 have HM8:Hid (M≠w.heap.size):=fun e=>by
  have h1:=hS.1;have h2:=HL0.o.2;rw[e] at h1;have:=h1.symm.trans h2;simp at this
 have hf8:blk w8 w.heap.size (coL C s4.sl) 43:=by
  rw[<- hW8];have:=blk.put [] l0 [] (coL C s4.sl) (w:=w2) (b:=w.heap.size) (T:=43) (by simpa using HL0.o.2) (by rw[HL0.o.1,cL]);simpa using this
 have HF:Hid (blk w8 w.heap.size (coL C s4.sl) 43):=hf8;clear hf8;have oth:∀ x,x≠w.heap.size->w8.heap[x]?=w2.heap[x]?:=fun x hx=>by rw[<- hW8];exact sO _ x hx _ _ _
 have hsz:w8.heap.size=w2.heap.size:=by rw[<- hW8];exact sZ ..
 have HB8:Hid (Bl w w8):=by rw[<- hW8];exact sW om 0 _ hS.2.2
 have HQ8:Hid (St w.heap.size w8 (fun W=>aK W C.ho s4.sl)/\whS w.heap.size w8.heap.size w8 s4):=pn.put (w:=w) HZ.o.1 HZ.o.2 HQ.o.1 HQ.o.2.1 oth hsz;have hS8:(fun X=>blk X M (mcH P C++(L++prL)) 147/\(∃ l:List Value,l.length=21/\blk X w.heap.size l 43)/\Bl w X) w8:=⟨hS.1.kept (oth _ HM8.o),⟨_,cL _ _,HF.o⟩,HB8.o⟩
 clear oth hsz hW8 hbl hl0;refine hK2.out _ _ hS8 (fun hS3=>?_);clear hK2 K2 hS8 hS hS3 HL0 HM8 HZ;refine QH kr ?_ _;go_wp2_with fail;have hL:=QI (P:=Tp) w8 w.heap.size 0 43 _ _ HF.o.load underlying43 rfl (cy C s4.sl);refine bC results93 hL ?_;exact⟨s4,rfl,HQ8.o.1,HQ8.o.2,HQ.o.2.2.1,HQ.o.2.2.2,HB8.o⟩
open Option renaming none->nn,some->sQ
open Go renaming World->Wd
open Go.IntKind renaming i64->J,u32->Zk
structure ptS (w:Wd) (L:List Value) (F:List Value) (W:Wd):Prop where
 p:blk W w.heap.size L 41
 f:blk W (w.heap.size+1) F 67
 r:blk W (w.heap.size+1+1) Z10 41
 b:Bl w W
def ptS.below {w:Wd} {L F:List Value} {W W':Wd} (h:ptS w L F W) (hb:Bl W W'):ptS w L F W':=⟨h.p.below hb,h.f.below hb,h.r.below hb,h.b.trans (hb.mono h.b.size)⟩
def ptS.new (w:Wd) (L F:List Value):ptS w L F (((w.alloc (.cells L.toArray 41)).alloc (.cells F.toArray 67)).alloc (.cells zX.toArray 41)):=by
 refine⟨((blk.new w _ 41).alloc _).alloc _,?_,?_,(Zw.alloc pQ _).alloc (by simp;omega) _⟩
 .have:=(blk.new (w.alloc (.cells L.toArray 41)) F 67).alloc (.cells zX.toArray 41);simpa using this
 .have:=blk.new ((w.alloc (.cells L.toArray 41)).alloc (.cells F.toArray 67)) Z10 41;have e:((w.alloc (.cells L.toArray 41)).alloc (.cells F.toArray 67)).heap.size=w.heap.size+1+1:=pQ;rw[e] at this;exact this
def cH.other {α:Type} {F:Rc α} {w w':Wd} {B E sz g k q:Nat} {rs:List α} (h:cH F w B E sz g k rs) (he:∀ b,b≠q->w'.heap[b]?=w.heap[b]?) (hg:g≠q) (hd:∀ p ∈ rs,F.gd p≠q) (hz:w.heap.size<=w'.heap.size):cH F w' B E sz g k rs:=by
 refine⟨oK h.own (he g hg),fun p hp=>?_⟩;obtain⟨d1,d2,d3,d4⟩:=h.dat p hp;exact⟨d1.other (he _ (hd p hp)),d2,d3,nL d4 hz⟩
def quP (c3:Int) (qu:List R8) (e:R8):List R8:=if (qu.length:Int)<c3 then qu++[e] else qu
def loP (c3:Int) (qu:List R8) (lo:Int):Int:=if (qu.length:Int)<c3 then lo else if lo<100000 then lo+1 else lo
def pH (H:Ho) (e:R8):Ho:={ H with qu:=quP H.c3 H.qu e,lo:=loP H.c3 H.qu H.lo }
def qSl (s:Sl) (g n k:Nat):Sl:={ s with a4:=sQ ⟨g,0,nn⟩,n4:=n,k4:=k }
def Jg (w:Wd) (H:Ho) (s:Sl) (B g4:Nat) (rs:List (R8 × Nat × Nat)) (x y z:Int) (e:Bool) (i:Nat) (r:Bool) (d:Int) (ao:Option Addr) (c:Nat) (l:List Nat) (ha:s.a4=sQ ⟨g4,0,nn⟩) (hq:(s.n4:Int)<H.c3) (hn:s.n4<=1000) (hO:cH rc8 w B 175 8 g4 s.k4 rs) (hrl:rs.length=s.n4) (hB:B<=w.heap.size) (hf:iB w ao l.length c l) (hm:l.length<=1048576) :
  Calls Tp 167 #[aG (hoL H s).toArray,I J x,I J y,I J z,frV e i r d ao l.length c] w fun o w'=>∃ g' k' gd kd,o = rT (aG (hoL H (qSl s g' (s.n4+1) k')).toArray)/\cH rc8 w' B 175 8 g' k' (rs++[(⟨x,y,z,e,i,r,d,l⟩,gd,kd)])/\(∀ q,q≠g4->q<w.heap.size->w'.heap[q]?=w.heap[q]?)/\(g'=g4\/w.heap.size<=g')/\w.heap.size<=gd/\Below B w w':=by
 have H0:=ptS.new w (hoL H s) [bO e,I Zk (i:Int),bO r,I J d,sL ao l.length c];have HO:Hid (cH rc8 w B 175 8 g4 s.k4 rs/\rs.length=s.n4/\B<=w.heap.size/\iB w ao l.length c l/\l.length<=1048576):=⟨hO,hrl,hB,hf,hm⟩
 have x3:=H0.p.cell 3 _ rfl;have x7:=H0.p.cell 7 _ rfl;rw[ha] at x7;have HA:Hid (s.a4=sQ ⟨g4,0,nn⟩):=ha;have f0:=H0.f.cell 0 _ rfl;have f1:=H0.f.cell 1 _ rfl;have f2:=H0.f.cell 2 _ rfl;have f3:=H0.f.cell 3 _ rfl;have f4:=H0.f.cell 4 _ rfl;have HP:Hid (ptS w (hoL H s) [bO e,I Zk (i:Int),bO r,I J d,sL ao l.length c] _):=H0;clear H0 hO hrl hB hf ha hm;go_enter func167,ntmps167
 go_wp2_with fail;generalize hV:World.alloc (World.alloc (World.alloc w _) _) _=v at *;clear hV;go_region_law
  (first
   | (go_simp;go_at_call 118;refine (eM v.drew e i r d ao l.length c l (HO.o.2.2.2.1.below (HP.o.b.trans ((bW _ _).drew.mono HP.o.b.size))) HO.o.2.2.2.2).mono ?_;rintro o wc ⟨gd,kd,rfl,⟨q1,q2,q3,q4⟩,hbc⟩;have HQ:Hid (v.heap.size<=gd/\gd<wc.heap.size/\iB wc (sQ ⟨gd,0,nn⟩) l.length kd l):=⟨q1,q2,q3.now⟩;have HBC:Hid (Bl v wc):=(bW _ _).drew.trans hbc;have HPA:Hid (ptS w (hoL H s) [bO e,I Zk (i:Int),bO r,I J d,sL ao l.length c] (wc.alloc (.cells #[I J x,I J y,I J z,bO e,I Zk (i:Int),bO r,I J d,sL (sQ ⟨gd,0,nn⟩) l.length kd] 175))):=HP.o.below (HBC.o.alloc HBC.o.size _);have HOA:Hid (cH rc8 (wc.alloc (.cells #[I J x,I J y,I J z,bO e,I Zk (i:Int),bO r,I J d,sL (sQ ⟨gd,0,nn⟩) l.length kd] 175)) B 175 8 g4 s.k4 rs):=HO.o.1.below HPA.o.b;have y6:=(HP.o.below HBC.o).p.cell 7 _ rfl;have y7:=HPA.o.p.cell 7 _ rfl;rw[HA.o] at y6 y7;clear q1 q2 q3 q4 hbc;go_wp2_with fail)
   | (refine iQ (.tmp 27) (.tmp 34) 39 175 _ 8 72 info175 underlying39 rfl (by decide) (by decide) (by rfl) B g4 s.n4 s.k4 (rs.flatMap rc8.enc) (by rfl) (by have:=HOA.o.own;rw[HO.o.2.1] at this;exact this) wc.heap.size [I J x,I J y,I J z,bO e,I Zk (i:Int),bO r,I J d,sL (sQ ⟨gd,0,nn⟩) l.length kd] (by rfl) rfl (blk.new wc [I J x,I J y,I J z,bO e,I Zk (i:Int),bO r,I J d,sL (sQ ⟨gd,0,nn⟩) l.length kd] 175) (CA _ _ _ _ _ _ _ _ _ _) om (nT HO.o.2.2.1 HPA.o.b.size) ?_;intro g' k' w6 ho6 hg6 hg' hB6;have hl4:=HO.o.1.lt;have HX:Hid (cH rc8 w6 B 175 8 g' k' (rs++[(⟨x,y,z,e,i,r,d,l⟩,gd,kd)])):=HOA.o.snoc (⟨x,y,z,e,i,r,d,l⟩,gd,kd) (HQ.o.2.2.below Zw) (by show B<=gd;have:=HQ.o.1;have:=HP.o.b.size;omega) (by show gd≠g4;have:=HQ.o.1;have:=HP.o.b.size;omega) (by show gd<_;have:=HQ.o.2.1;simp;omega) (by rw[HO.o.2.1];exact ho6) hg6 hg';have HY:Hid ((∀ q,q≠g4->q<w.heap.size->w6.heap[q]?=w.heap[q]?)/\Below B w w6/\(g'=g4\/w.heap.size+3<=g')/\w.heap.size+3<=gd):=⟨fun q h1 h2=>(hg6.block q (nL h2 HPA.o.b.size) (by intro e;cases e;exact h1 rfl)).trans (HPA.o.b.block q h2),(HPA.o.b.mono HO.o.2.2.1).grown hg6 (nT HO.o.2.2.1 HPA.o.b.size) (by intro k e;cases e;exact hl4.1),(by have:=HP.o.r.lt;have:=HBC.o.size;rcases hg' with e | e;(exact qr e);(right;rw[e];simp;omega)),(by have:=HP.o.r.lt;have:=HQ.o.1;omega)⟩;have hp:=HPA.o.p.kept (hg6.block _ HPA.o.p.lt (by intro e;cases e;omega));have hr:=HPA.o.r.kept (hg6.block _ HPA.o.r.lt (by intro e;cases e;omega));have xq:=hp.cell 7 _ rfl;have fq:=hp.free 7;have HP7:Hid (blk (w6.setCell ⟨w.heap.size,7,nn⟩ (sL (sQ ⟨g',0,nn⟩) (s.n4+1) k')) w.heap.size (hoL H (qSl s g' (s.n4+1) k')) 41/\blk (w6.setCell ⟨w.heap.size,7,nn⟩ (sL (sQ ⟨g',0,nn⟩) (s.n4+1) k')) (w.heap.size+1+1) Z10 41):=⟨hp.set 7 _,hr.setOther om _ _⟩;clear ho6 hg6 hg' hB6 hp hr))
 all_goals
  clear xq fq y6 y7 x3 x7 f0 f1 f2 f3 f4;have o7:=fun q (hq:q≠w.heap.size)=>QA w6 ⟨w.heap.size,7,nn⟩ q (sL (sQ ⟨g',0,nn⟩) (s.n4+1) k') hq;have z7:(w6.setCell ⟨w.heap.size,7,nn⟩ (sL (sQ ⟨g',0,nn⟩) (s.n4+1) k')).heap.size=w6.heap.size:=pQ;have b7:=HY.o.2.1.setCell (p:=⟨w.heap.size,7,nn⟩) (by exact HO.o.2.2.1) (sL (sQ ⟨g',0,nn⟩) (s.n4+1) k');generalize w6.setCell ⟨w.heap.size,7,nn⟩ (sL (sQ ⟨g',0,nn⟩) (s.n4+1) k')=w7 at *;have H7:Hid ((∀ q,q≠w.heap.size->w7.heap[q]?=w6.heap[q]?)/\w7.heap.size=w6.heap.size/\Below B w w7):=⟨o7,z7,b7⟩
  clear o7 z7 b7;go_wp2_with (first
   | (refine ZG 41 HP7.o.1.load underlying41 (px _ _) ?_)
   | (refine Zs 41 (hoL H (qSl s g' (s.n4+1) k')).toArray (HP7.o.2.there 0 10 (by simp[Z10])) (Cw _ _) (oC _ _) ?_;generalize hW8:World.setCells _ (w.heap.size+1+1) 0 _=w8;have HW8:Hid (World.setCells w7 (w.heap.size+1+1) 0 (hoL H (qSl s g' (s.n4+1) k'))=w8):=hW8;clear hW8))
  have e8:=HW8.o;have hF:blk w8 (w.heap.size+1+1) (hoL H (qSl s g' (s.n4+1) k')) 41:=e8 ▸ (by simpa using blk.put [] Z10 [] (hoL H (qSl s g' (s.n4+1) k')) (by simpa using HP7.o.2) rfl);refine bC results167 (QI (P:=Tp) w8 (w.heap.size+1+1) 0 41 _ _ hF.load underlying41 rfl (px _ _)) ?_;have o8:∀ q,q≠w.heap.size+1+1->w8.heap[q]?=w7.heap[q]?:=fun q hq=>by rw[<- e8];exact sO _ q hq _ _ _
  have z8:w8.heap.size=w7.heap.size:=by rw[<- e8];exact sZ ..
  have hd:∀ p ∈ rs++[((⟨x,y,z,e,i,r,d,l⟩ : R8),gd,kd)],rc8.gd p≠w.heap.size/\rc8.gd p≠w.heap.size+1+1:=fun p hp=>by
   rcases List.mem_append.1 hp with h|h
   .have:=(HO.o.1.dat p h).2.2.2;omega
   .rw[List.mem_singleton.1 h];have:=HY.o.2.2.2;exact⟨by show gd≠_;omega,by show gd≠_;omega⟩
  have hg:g'≠w.heap.size/\g'≠w.heap.size+1+1:=by have:=HY.o.2.2.1;omega
  refine⟨g',k',gd,kd,rfl,(HX.o.other H7.o.1 hg.1 (fun p hp=>(hd p hp).1) (by rw[H7.o.2.1];exact nR _)).other o8 hg.2 (fun p hp=>(hd p hp).2) (by rw[z8];exact nR _),fun q h1 h2=>(o8 q om).trans ((H7.o.1 q om).trans (HY.o.1 q h1 h2)),by have:=HY.o.2.2.1;omega,by have:=HY.o.2.2.2;omega,?_⟩;rw[<- e8];exact sW (by have:=HO.o.2.2.1;omega) 0 _ H7.o.2.2
def Jh (w:Wd) (H:Ho) (s:Sl) (x y z:Int) (e:Bool) (i:Nat) (r:Bool) (d:Int) (ao:Option Addr) (c:Nat) (l:List Nat) (hq:H.c3<=(s.n4:Int)) (hlo:0<=H.lo/\H.lo<=100000) :
  Calls Tp 167 #[aG (hoL H s).toArray,I J x,I J y,I J z,frV e i r d ao l.length c] w fun o w'=>o = rT (aG (hoL { H with lo:=if H.lo<100000 then H.lo+1 else H.lo } s).toArray)/\Bl w w':=by
 have H0:=ptS.new w (hoL H s) [bO e,I Zk (i:Int),bO r,I J d,sL ao l.length c];have x3:=H0.p.cell 3 _ rfl;have x7:=H0.p.cell 7 _ rfl;have x8:=H0.p.cell 8 _ rfl;have f8:=H0.p.free 8;have HP:Hid (ptS w (hoL H s) [bO e,I Zk (i:Int),bO r,I J d,sL ao l.length c] _):=H0;have hq':decide (H.c3<=(s.n4:Int))=true:=by simpa using hq
 have hwr:IntKind.i64.wrap (H.lo+1)=H.lo+1:=by rw[QR];omega
 clear H0 hlo;obtain⟨lo,hlo⟩ : ∃ lo,lo=if H.lo<100000 then H.lo+1 else H.lo:=⟨_,rfl⟩
 rw[<- hlo];go_enter func167,ntmps167;go_upto_region 1 with fail
 generalize hV:World.alloc (World.alloc (World.alloc w _) _) _=v at *;clear hV;go_upto_if 20 with fail
 go_cut [] (fun wx=>blk wx w.heap.size (hoL { H with lo:=lo } s) 41/\blk wx (w.heap.size+1+1) Z10 41/\Bl w wx);case first=>
  go_wp2_with fail
  .rw[qc (by assumption)] at hlo;subst hlo;go_meet;case rel=>exact⟨HP.o.p.set 8 _,HP.o.r.setOther om _ _,HP.o.b.setCell (by exact nR _) _⟩
  .rw[qa om] at hlo;subst hlo;go_meet;case rel=>exact⟨HP.o.p,HP.o.r,HP.o.b⟩
 case rest=>
  obtain⟨h1,h2,h3⟩:=hcut;have HP7:Hid (blk wc w.heap.size (hoL { H with lo:=lo } s) 41/\blk wc (w.heap.size+1+1) Z10 41):=⟨h1,h2⟩
  have HB7:Hid (Bl w wc):=h3
  clear h1 h2 h3 HP;go_wp2_with (first
   | (refine ZG 41 HP7.o.1.load underlying41 (px _ _) ?_)
   | (refine Zs 41 (hoL { H with lo:=lo } s).toArray (HP7.o.2.there 0 10 (by simp[Z10])) (Cw _ _) (oC _ _) ?_;generalize hW8:World.setCells _ (w.heap.size+1+1) 0 _=w8;have HW8:Hid (World.setCells wc (w.heap.size+1+1) 0 (hoL { H with lo:=lo } s)=w8):=hW8;clear hW8))
  have e8:=HW8.o;have hF:blk w8 (w.heap.size+1+1) (hoL { H with lo:=lo } s) 41:=e8 ▸ (by simpa using blk.put [] Z10 [] (hoL { H with lo:=lo } s) (by simpa using HP7.o.2) rfl);refine bC results167 (QI (P:=Tp) w8 (w.heap.size+1+1) 0 41 _ _ hF.load underlying41 rfl (px _ _)) ?_;exact⟨rfl,e8 ▸ sW om 0 _ HB7.o⟩
abbrev ev3 (x y z:Int):R8:=⟨x,y,z,false,0,false,0,[]⟩
section
variable {W:World} {n g B T k:Nat} {bx:List R8} {hs:Nat->Hd}
abbrev z8:R8:=⟨0,0,0,false,0,false,0,[]⟩
structure bxR (B T g n k:Nat) (bx:List R8) (hs:Nat->Hd) (W:World):Prop where
 len:n=bx.length
 cap:n<=k
 lo:B<=g
 hi:g<T
 row:az W g (n*8)
 rng:∀ j (h:j<bx.length),W.rangeAt g (j*8) (x8 (bx[j],hs j))
 dat:∀ j (h:j<bx.length),iB W (hs j).1 (hs j).2.1 (hs j).2.2 bx[j].l/\(((hs j).1=nn/\(hs j).2.1=0)\/∃ b,(hs j).1=sQ ⟨b,0,nn⟩/\B<=b/\b<T/\b≠g)
def iB.none0 {W':World} {a:Option Addr} {c:Nat} {l:List Nat} (h:iB W a n c l) (hn:n=0):iB W' a n c l:=⟨h.len,h.cap,h.small,fun hne=>Qy (List.length_pos_iff.2 hne) (by have:=h.len;omega)⟩
def CY {o:Nat} {b:R8} {h:Hd} (hr:W.rangeAt g o (x8 (b,h))) (hd:iB W h.1 h.2.1 h.2.2 b.l):at8 W g o b h.1 h.2.1 h.2.2:=
 ⟨hr 0 _ rfl,hr 1 _ rfl,hr 2 _ rfl,hr 3 _ rfl,hr 4 _ rfl,hr 5 _ rfl,hr 6 _ rfl,hr 7 _ rfl,hd⟩
def bxR.is (h:bxR B T g n k bx hs W):aM W (sQ ⟨g,0,nn⟩) n k bx:=
 ⟨h.len,h.cap,fun _=>⟨g,0,rfl,fun j hj=>⟨_,_,_,by rw[qi];exact CY (h.rng j hj) (h.dat j hj).1⟩⟩⟩
def cR.bxR {E:Nat} (h:cR B T E g n k bx W):∃ hs,bxR B T g n k bx hs W:=by
 have hi:=h.is;obtain⟨rs,h2,h3,h4,h5,h6⟩:=h;have hl:=h2.lt;obtain⟨g1,c1,e1,q1,q2,q3,q4⟩:=eY h2.own (by intro e;cases e);rcases cS h2.own with⟨e,_⟩|⟨g2,c2,e2,_,_,_,hrf,hrg⟩
 .cases e
 cases e2;subst h3;refine⟨fun j=>(rs.map fun p=>((sQ ⟨p.2.1,0,nn⟩,p.1.l.length,p.2.2):Hd)).getD j (nn,0,0),⟨hi.len,hi.cap,hl.1,h5,by rw[<- h4];exact hrf,fun j hj=>?_,fun j hj=>?_⟩⟩
 .have hj':j<rs.length:=by simpa using hj
  have e:x8 ((rs.map (·.1))[j],(rs.map fun p=>((sQ ⟨p.2.1,0,nn⟩,p.1.l.length,p.2.2):Hd)).getD j (nn,0,0))=rc8.enc rs[j]:=by
   simp[x8,rc8,List.getD,hj']
  rw[e];intro t u hu;have ht:t<8:=by have:=(List.getElem?_eq_some_iff.mp hu).1;simpa[rc8] using this
  have:=hrg (j*8+t) u (by rw[oM rc8.enc 8 (fun _=>rfl) rs j hj' t ht];exact hu);rw[qi] at this;exact this
 .have hj':j<rs.length:=by simpa using hj
  have hm:=qn hj';obtain⟨d1,d2,d3,d4⟩:=h2.dat rs[j] hm;simp only[Qh,List.getD,List.getElem?_map,qy hj',Option.map_some,Option.getD_some];exact⟨d1,qx ⟨_,rfl,d2,h6 _ hm,d3⟩⟩
def bxR.put (h:bxR B T g n k bx hs W) (i:Nat) (hi:i<bx.length) (b:R8) (hd:Hd) (hb:iB W hd.1 hd.2.1 hd.2.2 b.l) (hw:(hd.1=nn/\hd.2.1=0)\/∃ b,hd.1=sQ ⟨b,0,nn⟩/\B<=b/\b<T/\b≠g):bxR B T g n k (bx.set i b) (fun j=>if j=i then hd else hs j) (aQ W g (i*8) (x8 (b,hd))):=by
 have hln:=h.len;have oth:∀ x,x≠g->(aQ W g (i*8) (x8 (b,hd))).heap[x]?=W.heap[x]?:=fun x hx=>aI g x hx _ _ _;have dk:∀ (hd':Hd) (l:List Nat),iB W hd'.1 hd'.2.1 hd'.2.2 l->((hd'.1=nn/\hd'.2.1=0)\/∃ b,hd'.1=sQ ⟨b,0,nn⟩/\B<=b/\b<T/\b≠g)->iB (aQ W g (i*8) (x8 (b,hd))) hd'.1 hd'.2.1 hd'.2.2 l:=by
  intro hd' l h1 h2;rcases h2 with⟨e1,e2⟩|⟨c,e1,e2,e3,e4⟩
  .exact h1.none0 e2
  .rw[e1] at h1 ⊢;exact h1.other (oth c e4)
 refine⟨by rw[qJ];exact h.len,h.cap,h.lo,h.hi,h.row.setRow _ _ _ _,fun j hj=>?_,fun j hj=>?_⟩
 .have hj':j<bx.length:=by simpa using hj
  by_cases e:j=i
  .subst e;rw[Qk,qc rfl];intro t u hu;have ht:t<(x8 (b,hd)).length:=(List.getElem?_eq_some_iff.mp hu).1;have ht8:t<8:=by simpa[x8] using ht
   rw[aL g _ _ _ t ht ((h.row (j*8+t) om).1)];rw[qy ht] at hu;exact hu
  .rw[Qn (fun x=>e x.symm),qa e];intro t u hu;have ht:t<8:=by have:=(List.getElem?_eq_some_iff.mp hu).1;simpa[x8] using this
   rw[rO g _ _ _ _ (by simp[x8];omega)];exact h.rng j hj' t u hu
 .have hj':j<bx.length:=by simpa using hj
  by_cases e:j=i
  .subst e;rw[Qk,qc rfl];exact⟨dk hd b.l hb hw,hw⟩
  .rw[Qn (fun x=>e x.symm),qa e];exact⟨dk _ _ (h.dat j hj').1 (h.dat j hj').2,(h.dat j hj').2⟩
def bxR.there (h:bxR B T g n k bx hs W) (i:Nat) (hi:i<bx.length):W.there g (i*8) 8:=fun j hj=>by
 obtain⟨⟨v,hv⟩,hf⟩:=h.row (i*8+j) (by have:=h.len;omega);exact⟨by rw[hv];rfl,hf⟩
def bxR.setX (h:bxR B T g n k bx hs W) (i:Nat) (hi:i<bx.length) (v:Int):bxR B T g n k (bx.set i { bx[i] with x:=v }) hs (W.setCell ⟨g,i*8,nn⟩ (I J v)):=by
 have oth:∀ x,x≠g->(W.setCell ⟨g,i*8,nn⟩ (I J v)).heap[x]?=W.heap[x]?:=fun x hx=>QA W ⟨g,i*8,nn⟩ x _ hx;refine⟨by rw[qJ];exact h.len,h.cap,h.lo,h.hi,h.row.setCell _ _,fun j hj=>?_,fun j hj=>?_⟩
 .have hj':j<bx.length:=by simpa using hj
  have ot:∀ t,j*8+t≠i*8->(W.setCell ⟨g,i*8,nn⟩ (I J v)).cell? ⟨g,j*8+t,nn⟩=W.cell? ⟨g,j*8+t,nn⟩:=fun t ht=>QG _ _ _ _ (by intro e;simp at e <;> omega);intro t u hu;have ht:t<8:=by have:=(List.getElem?_eq_some_iff.mp hu).1;simpa[x8] using this
  by_cases e:j=i
  .subst e;rw[Qk] at hu;by_cases et:t=0
   .subst et;have e0:u = I J v:=by simpa[x8] using hu.symm
    subst e0;obtain⟨⟨w0,hw0⟩,_⟩:=h.row (j*8) (by have:=h.len;omega);exact QS _ _ _ hw0
   .rw[ot t om];refine h.rng j hj' t u ?_;rw[<- hu];match t,ht,et with
    | 1,_,_ | 2,_,_ | 3,_,_ | 4,_,_ | 5,_,_ | 6,_,_ | 7,_,_=>rfl
  .rw[Qn (fun x=>e x.symm)] at hu;rw[ot t om];exact h.rng j hj' t u hu
 .have hj':j<bx.length:=by simpa using hj
  have e:(bx.set i { bx[i] with x:=v })[j].l=bx[j].l:=by
   by_cases e:j=i
   .subst e;rw[Qk]
   .rw[Qn (fun x=>e x.symm)]
  rw[e];obtain⟨h1,h2⟩:=h.dat j hj';refine⟨?_,h2⟩;rcases h2 with⟨e1,e2⟩|⟨b,e1,e2,e3,e4⟩
  .exact h1.none0 e2
  .rw[e1] at h1 ⊢;exact h1.other (oth b e4)
end
section
variable {bx:List R8} {H:Ho}
def FO (b:R8):Bool:=b.x == 2 || b.x == 3
def wI (bx:List R8):Nat:=bx.findIdx FO
def bsy.ix {r:Int} (h:bsy bx r):(r = -1/\¬ wI bx<bx.length)\/(r=(wI bx:Int)/\wI bx<bx.length):=by
 have e:∀ b,FO b=true↔onW b:=fun b=>by simp[FO,onW]
 rcases h with⟨k,hk,h1,h2,rfl⟩|⟨h1,rfl⟩
 .right;have e:wI bx=k:=by
   unfold wI;rw[List.findIdx_eq hk];refine⟨(e _).2 h1,fun j hj=>?_⟩;have:=h2 j om hj;rw[<- e] at this;simpa using this
  rw[e];exact⟨rfl,hk⟩
 .left;refine⟨rfl,?_⟩
  have:wI bx=bx.length:=List.findIdx_eq_length.2 fun b hb=>by
   obtain⟨j,hj,rfl⟩:=List.getElem_of_mem hb;have:=h1 j hj;rw[<- e] at this;simpa using this
  omega
def GS (h:wI bx<bx.length):bx[wI bx].x=2\/bx[wI bx].x=3:=by
 have e:FO (bx[wI bx])=true:=List.findIdx_getElem (xs:=bx) (p:=FO) (w:=h);generalize bx[wI bx]=b at *;simpa[FO] using e
def lD (H:Ho) (k:Nat):Ho:={ H with bx:=H.bx.set k z8 }
def Dl (H:Ho) (k:Nat) (v:Int):Ho:=if h:k<H.bx.length then { H with bx:=H.bx.set k { H.bx[k] with x:=v } } else H
def Cz (H:Ho) (sent:Bool):Ho:=
 if h:wI H.bx<H.bx.length then
  (if sent=true then pH (lD H (wI H.bx)) ⟨1,H.bx[wI H.bx].y,0,H.bx[wI H.bx].e,H.bx[wI H.bx].i,H.bx[wI H.bx].r,H.bx[wI H.bx].d,H.bx[wI H.bx].l⟩
   else if H.bx[wI H.bx].x=3 then pH (lD H (wI H.bx)) (ev3 6 H.bx[wI H.bx].y 0)
   else Dl H (wI H.bx) 1)
 else H
def GK {sent:Bool} (h:¬ wI H.bx<H.bx.length):Cz H sent=H:=by unfold Cz;rw[dif_neg h]
def IG {w:World} (L:List Value) (hL:L.length=8):blk (World.setCells (w.alloc (.cells [I J 0,I J 0,I J 0,bO false,I .u32 0,bO false,I J 0,sL none 0 0].toArray 116)) w.heap.size 0 L) w.heap.size L 116/\Bl w (World.setCells (w.alloc (.cells [I J 0,I J 0,I J 0,bO false,I .u32 0,bO false,I J 0,sL none 0 0].toArray 116)) w.heap.size 0 L):=by
 refine⟨?_,sW (nR _) _ _ Zw⟩;have:=blk.put [] [I J 0,I J 0,I J 0,bO false,I .u32 0,bO false,I J 0,sL none 0 0] [] L (w:=w.alloc (.cells [I J 0,I J 0,I J 0,bO false,I .u32 0,bO false,I J 0,sL none 0 0].toArray 116)) (b:=w.heap.size) (T:=116) (blk.new w _ 116) hL.symm;simpa using this
abbrev Z8:List Value:=[I J 0,I J 0,I J 0,bO false,I .u32 0,bO false,I J 0,sL none 0 0]
def yM (W:World):iB W none 0 0 []:=⟨rfl,nR _,fun q hq=>(by cases hq),fun h=>Qy rfl h⟩
def KM (H:Ho) (k:Nat) (v:Int) (s:Sl):hoL (Dl H k v) s=hoL H s:=by
 unfold Dl;split <;> rfl
def yg {k:Nat} (hk:k<H.bx.length) (v:Int):Dl H k v = { H with bx:=H.bx.set k { H.bx[k] with x:=v } }:=by
 unfold Dl;rw[dif_pos hk]
end
def dP.n4 {H:Ho} (h:dP H):H.qu.length<=1000:=by
 have h1:=qO h.cf;have h2:=h.nq;omega
def MKQ (B:Nat) (T:Ho) (sg:Sl) (w:World):Prop:=∀ W,(∀ x,B<=x->x<w.heap.size->W.heap[x]?=w.heap[x]?)->w.heap.size<=W.heap.size->Calls Tp 41 #[aG (hoL T sg).toArray,I J 1] W fun o w1=>∃ k:Nat,o = rT (I J (k:Int))/\Below B W w1/\(∀ x,w.heap.size<=x->x<W.heap.size->w1.heap[x]?=W.heap[x]?)/\∀ W2,Bl w1 W2->Calls Tp 42 #[aG (hoL T sg).toArray,I J 1] W2 fun o w2=>o = rT (I J (k:Int))/\Bl W2 w2
def whS.mkq {B:Nat} {w:World} {s:Wh} {H:Ho} (h:whS B w.heap.size w s) (hd:whD s) (he:whE s):MKQ B H s.sl w:=by
 intro W hW hz;have hs:whS B w.heap.size W s:=h.same hW;refine (ji B w.heap.size W H.c0 H.c1 H.c2 H.c3 H.lo H.st s 1 hs hd hz om).mono ?_;rintro o w1 ⟨rfl,hm,hs1,ho,hb⟩;refine⟨s.c4 1,rfl,hb,fun x h1 h2=>ho x (qx h1) h2,fun W2 hW2=>?_⟩;have hz1:w.heap.size<=w1.heap.size:=nT hz hb.size;have hs2:whS B w.heap.size W2 s:=hs1.same fun x _ hx=>hW2.block x om;have hm2:whM W2 s 1:=(hm he).same hs1 fun x _ hx=>hW2.block x om;exact oG B w.heap.size W2 H.c0 H.c1 H.c2 H.c3 H.lo H.st s 1 hs2 hm2 (nT hz1 hW2.size) om
def Ay (B:Nat) (w:World) (hB:B<=w.heap.size):MKQ B zHo zSl w:=by
 intro W hW hz;refine (IJ W 0 0 0 0 0 0 1 om).mono ?_;rintro o w1 ⟨rfl,hb⟩;refine⟨1,rfl,hb.mono om,fun x _ h2=>hb.block x h2,fun W2 hW2=>?_⟩;refine (MY W2 0 0 0 0 0 0 1 om).mono ?_;rintro o w2 ⟨rfl,hb2⟩;exact⟨rfl,hb2⟩
def CX {B T:Nat} {W:World} {sx:Wh} {H:Ho} (h:whS B T W sx) (hd:whD sx) (hT:T<=W.heap.size):Calls Tp 41 #[aG (hoL H sx.sl).toArray,I J 1] W fun o w1=>∃ k:Nat,o = rT (I J (k:Int))/\(∀ x,T<=x->x<W.heap.size->w1.heap[x]?=W.heap[x]?)/\Below B W w1:=by
 refine (ji B T W H.c0 H.c1 H.c2 H.c3 H.lo H.st sx 1 h hd hT om).mono ?_;rintro o w1 ⟨rfl,_,_,q,hb⟩;exact⟨_,rfl,fun x h1 h2=>q x (qx h1) h2,hb⟩
def FH (X:World) (H:Ho) (s:Sl) (h:aK X H s) (hm:H.le 1048576):Calls Tp 35 #[aG (hoL H s).toArray] X fun o w'=>∃ s':Wh,o = rT (aG (hoL H s'.sl).toArray)/\St X.heap.size w' (fun W=>aK W H s'.sl)/\whS X.heap.size w'.heap.size w' s'/\whD s'/\dz s'.sl/\Bl X w':=by
 rw[<- Gt];refine (vC X H s h hm).mono ?_;rintro o w' ⟨s',rfl,h1,h2⟩;have hs:dz s':=by
  obtain⟨g1,g2,_,_,_,_,_,e,_⟩:=h1.now.2.e;rw[e];exact⟨⟨g1,rfl⟩,⟨g2,rfl⟩⟩
 obtain⟨s2,rfl,h3,h4⟩:=h1.now.2.wh h1.now.1 hm;exact⟨s2,by rw[Gt],fun W hW=>(h1 W hW).1,h3,h4,hs,h2⟩
end Go.Proofs.YtgfolecanghhhaaGreat
