import Derived.Test.YtnfmjckkibdcaaaGreatDoorK45
import Derived.Test.YtnfmjckkibdcaaaGreatDoorK41
import Derived.Deep.DeepCutAuto
namespace Go.Proofs.YtnfmjckkibdcaaaGreatDoor
open Go.RowKit
set_option linter.all false
open Go.Value renaming int->I,slice->sL,bool->bO,pointer->pT,agg->aG
open Go.IntKind renaming i64->J
open Go.Ending renaming returned->rT
open Go.Proofs.Tryz renaming prog->Tp
variable {C:Co} {w:World} {s:Sl}
structure Os where
 s:Sl
 a:Option Addr
 n:Nat
 k:Nat
 aw:Option Addr
 nw:Nat
 kw:Nat
def pk3 (N:Int) (aw:Option Addr) (nw kw:Nat) (cu:Int):List Value:=[I J N,sL aw nw kw,I J cu]
def opL (T:Co) (S:Sc) (N cu:Int) (o:Os):List Value:=coL T o.s++scL S o.a o.n o.k++pk3 N o.aw o.nw o.kw cu
def uL (T:Co) (S:Sc) (N cu:Int) (o:Os):(opL T S N cu o).length=35:=rfl
def opZ (s:Sl):Os:=⟨s,none,0,0,none,0,0⟩
def zOs:Os:=opZ zSl
def Cs:opL zCo scZ 0 0 zOs=Z35:=rfl
def eD (T:Co) (S:Sc) (N cu:Int) (o:Os):(Tp.info? 54).map (·.size)=some (opL T S N cu o).length:=kr
def fO (T:Co) (S:Sc) (N cu:Int) (o:Os):(Tp.info? 54).map (·.size)=some (opL T S N cu o).toArray.size:=kr
def ey (T:Co) (S:Sc) (N cu:Int) (o:Os):(opL T S N cu o).toArray.all (·.oneCell')=true:=QL (by simp[opL,coL,scL,pk3,Value.oneCell'])
def Cb (w:World) (T:Co) (s:Sl):(Instr.build 54 #[(0,aG (coL T s).toArray)]).run Tp w = .ok (aG (opL T scZ 0 0 (opZ s)).toArray) w:=kr
structure eN (W:World) (T:Co) (S:Sc) (ws:List Nat) (o:Os):Prop where
 h:aK W T.ho o.s
 d:iB W o.a o.n o.k S.l
 w:bP W o.aw o.nw o.kw ws
def eN.below {W W':World} {T:Co} {S:Sc} {ws:List Nat} {o:Os} (h:eN W T S ws o) (hb:Bl W W'):eN W' T S ws o:=⟨h.h.below hb,h.d.below hb,h.w.below hb⟩
def si (W:World):bP W none 0 0 []:=⟨rfl,nR _,pQ,fun h=>Qz rfl h⟩
def xC (W:World):iB W none 0 0 scZ.l:=⟨rfl,nR _,pQ,fun h=>Qz rfl h⟩
def xB (W:World):eN W zCo scZ [] zOs:=⟨CT W,xC W,si W⟩
def snd (C:Co):Bool:=C.p == 1 && C.tx
def dA (C:Co) (hd:ByteArray):Sc:=if (C.p == 1)=true then scO (lt hd) else scZ
def dO (C:Co):List Nat:=if snd C=true then wl (lt (dq C)) else []
def gw (C:Co):Int:=if snd C=true then ((dq C).size:Int) else 0
def gA (C:Co) (hd:ByteArray):Int:=if snd C=true then (hd.size:Int) else 0
def g7 (C:Co) (hd:ByteArray) (vc:Nat) (T:Co) (S:Sc) (N cu:Int) (ws:List Nat):Prop:=(fH C hd vc/\T=C/\S=dA C hd/\N=gw C/\cu=gA C hd/\ws=dO C)\/(¬ fH C hd vc/\T=zCo/\S=scZ/\N=0/\cu=0/\ws=[])
def EH (E:ByteArray):pkL E ((E.size+63) / 64)=wl (lt E):=by
 unfold wl;rw[ya,ba,C4]
def aK.small {H:Ho} (h:aK w H s) (j:Nat) (hj:j<H.bx.length):∀ x ∈ H.bx[j].l,x<256:=by
 obtain⟨g,off,_,hc⟩:=h.bx.cells (fun e=>by rw[e] at hj;cases hj);obtain⟨ao,m,c,h8⟩:=hc j hj;exact h8.dat.small
def kG (h:g9 C) (hw:wrP C.ho.bx) (hk:onI C.ho.bx<C.ho.bx.length):vB C.ho.bx[onI C.ho.bx].e C.ho.bx[onI C.ho.bx].i C.ho.bx[onI C.ho.bx].r C.ho.bx[onI C.ho.bx].d C.ho.bx[onI C.ho.bx].l.length=true:=by
 have h1:=h.h.bx.1 (onI C.ho.bx) hk;have hx:C.ho.bx[onI C.ho.bx].x≠0:=by
  have:=List.findIdx_getElem (xs:=C.ho.bx) (p:=fun b:R8=>b.x == 2 || b.x == 3) (w:=hk);intro e;have h2:(C.ho.bx[onI C.ho.bx].x == 2 || C.ho.bx[onI C.ho.bx].x == 3)=true:=this;rw[e] at h2;simp at h2
 unfold cZ at h1;rw[qa hx] at h1;exact h1.2.2.2
def fH.go {hd:ByteArray} (h:aK w C.ho s) (hok:fH C hd (bH hd).code) (hp:C.p=1):goL (lt hd):=by
 have h2:=hok.2;unfold hkP at h2;rw[qc hp] at h2;by_cases ht:C.tx=true
 .rw[qc ht] at h2;have hw:=hok.1.s.1 ⟨hp,ht⟩;have hk:=kC hw;rw[jq C hk] at h2;exact BI _ _ _ _ _ (kG hok.1 hw hk) (h.small _ hk) hd h2
 .rw[qa ht] at h2;exact zE h2.2
def Bx (h:g9 C) (hw:wrP C.ho.bx):okT (dq C) 4000=true/\(dq C).size<=4000:=by
 obtain⟨h1,h2,h3⟩:=iA C h hw;refine⟨?_,om⟩;unfold okT;rw[qx];refine⟨by simp;omega,List.all_eq_true.2 fun x hx=>?_⟩;obtain⟨j,hj,rfl⟩:=List.getElem_of_mem hx;have hj':j<(dq C).size:=by simpa using hj
 have:=h3 j hj';rw[tI] at this;unfold okC;generalize (dq C).data.toList[j]=y at *;rcases this with e|e
 .have:y=48:=UInt8.toNat_inj.1 e;subst this;rfl
 .have:y=49:=UInt8.toNat_inj.1 e;subst this;rfl
open Option renaming none->nn,some->sQ
open Go renaming World->Wd
set_option maxRecDepth 20000
set_option maxHeartbeats 16000000
variable {w W:Wd} {B P:Nat} {l:List Nat} {C:Co} {s:Sl}
def ja {ops:Array Oper} {rest:List Oper} {op:Oper} {a:Act} {Q:Exit->Act->Wd->Prop} (hgd:op.guard=nn) (ty:TypeId) (ps:Array (Nat × Operand)) (ho:op.op = .build ty ps)
  (pv:Array (Nat × Value)) (hp:(ps.map fun p=>(p.1,a.eval p.2))=pv) (v:Value) (hr:(Instr.build ty pv).run Tp w = .ok v w)
  (h:wpList Tp ops Q rest (a.put op.dst v) w):wpList Tp ops Q (op :: rest) a w:=
 wpList_plain hgd fun _ hK=>by
  unfold Oper.wp execOp;simp only[ho,hp,Q8,hr,Result.andThen_ok,Sem.run_pure];exact hK _ _ h
def aa.is {a:Option Addr} {n k:Nat} (h:aa w B (sL a n k) l) (hs:∀ x ∈ l,x<256):iB w a n k l:=by
 obtain⟨ao,cp,e,hi⟩:=h.bytes hs;cases e;exact hi
def an.keep {w':Wd} {v:Value} (h:an w B v l) (hk:∀ q,B<=q->q<w.heap.size->w'.heap[q]?=w.heap[q]?):an w' B v l:=h.otherBlock fun g hg=>hk g (QC h g hg).1 (QC h g hg).2
def Dh (N:Int) (a:Option Addr) (n k:Nat):(Tp.info? 52).map (·.size)=sQ (#[I J N,sL a n k]:Array Value).size:=kr
def CB (N:Int) (a:Option Addr) (n k:Nat):(#[I J N,sL a n k]:Array Value).all (·.oneCell')=true:=QL (by simp[Value.oneCell'])
structure prS (w:Wd) (C:Co) (s:Sl) (hd:ByteArray) (P:Nat) (L:List Value) (W:Wd):Prop where
 x:blk W w.heap.size (rfL C s hd) 57
 y:blk W (w.heap.size+1) Z35 54
 p:blk W P L 54
 b:Below w.heap.size w W
 q:w.heap.size+1<P
def prS.below {hd:ByteArray} {L:List Value} {W':Wd} (h:prS w C s hd P L W) (hb:Below W.heap.size W W'):prS w C s hd P L W':=⟨h.x.below hb,h.y.below hb,h.p.below hb,h.b.trans (hb.mono h.b.size),h.q⟩
def prS.put {hd:ByteArray} (pre old post vs:List Value) (h:prS w C s hd P (pre++old++post) W) (hl:old.length=vs.length):prS w C s hd P (pre++vs++post) (W.setCells P pre.length vs):=⟨h.x.other (by have:=h.q;omega) _ _,h.y.other (by have:=h.q;omega) _ _,h.p.put pre old post vs hl,sW (by have:=h.q;omega) _ _ h.b,h.q⟩
def Dm (w:Wd) (C:Co) (s:Sl) (hd:ByteArray) (vf:Nat) (vd vo:Bool) (h:aK w C.ho s) (hn:C.ho.le 1048576)
  (hj:∀ W,Calls Tp 53 #[.string hd] W fun o w'=>o = rT (aG #[I J ((bH hd).code:Int),I J (vf:Int),bO vd,bO vo])/\Below W.heap.size W w') :
  Calls Tp 6 #[aG (rfL C s hd).toArray] w fun o w'=>∃ T S N cu ws q,o = rT (aG (opL T S N cu q).toArray)/\g7 C hd (bH hd).code T S N cu ws/\eN w' T S ws q/\Below w.heap.size w w':=by
 have H0:Hid (blk ((w.alloc (.cells (rfL C s hd).toArray 57)).alloc (.cells Z35.toArray 54)) w.heap.size (rfL C s hd) 57/\blk ((w.alloc (.cells (rfL C s hd).toArray 57)).alloc (.cells Z35.toArray 54)) (w.heap.size+1) Z35 54/\Below w.heap.size w ((w.alloc (.cells (rfL C s hd).toArray 57)).alloc (.cells Z35.toArray 54))):=by
  refine⟨(blk.new w _ 57).alloc _,?_,((bW _ _).alloc (nR _) _).alloc pQ _⟩;have:=blk.new (w.alloc (.cells (rfL C s hd).toArray 57)) Z35 54;simpa using this
 obtain⟨v0,hv0⟩ : ∃ v0,v0=(w.alloc (.cells (rfL C s hd).toArray 57)).alloc (.cells Z35.toArray 54):=⟨_,rfl⟩
 rw[<- hv0] at H0;have HOK:Hid (∀ V,Below w.heap.size w V->Calls Tp 19 #[aG (rfL C s hd).toArray] V fun o w'=>cK o (fH C hd (bH hd).code)/\Below V.heap.size V w'):=fun V hV=>ze V C s hd _ vf vd vo (h.below hV) hn hj;have HCP:Hid (∀ V,Below w.heap.size w V->Calls Tp 20 #[aG (coL C s).toArray] V fun o w'=>∃ s',o = rT (aG (coL C s').toArray)/\St (V.heap.size+2) w' (fun X=>aK X C.ho s')/\Below V.heap.size V w'):=fun V hV=>(tj V C s (h.below hV) hn).mono (by rintro o w' ⟨s',T0,T1,T2,rfl,q1,_,_,q2⟩;exact⟨s',rfl,q1.isStD,q2⟩);have HH:Hid (aK w C.ho s):=h;clear h hn hj;go_enter Tryz.func6,Tryz.ntmps6;go_upto_region 1 with fail
 change Code.wp _ _ _ _ ((w.alloc (.cells (rfL C s hd).toArray 57)).alloc (.cells Z35.toArray 54));rw[<- hv0];clear hv0;go_wp2_with (first | (refine QA (P:=Tp) rfl 57 _ rfl w.heap.size 0 rfl (rfL C s hd) _ H0.o.1.load Tryz.underlying57 rfl vI ?_));refine (HOK.o _ H0.o.2.2).mono ?_;rintro o w1 ⟨⟨b,rfl,hb⟩,hb1⟩;have H1:Hid (blk w1 w.heap.size (rfL C s hd) 57/\blk w1 (w.heap.size+1) Z35 54/\Below w.heap.size w w1):=⟨H0.o.1.below hb1,H0.o.2.1.below hb1,H0.o.2.2.trans (hb1.mono H0.o.2.2.size)⟩
 have HB:=ah hb;clear hb hb1 H0 HOK;cases b
 .go_wp2_with (first
   | (refine QE (P:=Tp) rfl 54 _ _ rfl (w.heap.size+1) 0 Z35.toArray rfl rfl (H1.o.2.1.there 0 _ (by decide)) (fO zCo scZ 0 0 zOs) (ey zCo scZ 0 0 zOs) ?_;generalize hW8:World.setCells _ (w.heap.size+1) 0 _=w8;have HW8:Hid (_=w8):=hW8;clear hW8))
  have e8:=HW8.o;have hF:blk w8 (w.heap.size+1) Z35 54:=by rw[<- e8];exact H1.o.2.1.put [] Z35 [] Z35 rfl
  refine bC Tryz.results6 (QJ (P:=Tp) w8 (w.heap.size+1) 0 54 _ _ hF.load Tryz.underlying54 rfl (eD zCo scZ 0 0 zOs)) ?_;refine⟨zCo,scZ,0,0,[],zOs,by rw[Cs],qy ⟨fun x=>(by have:=HB.o.2 x;cases this),rfl,rfl,rfl,rfl,rfl⟩,xB _,?_⟩;rw[<- e8];exact sW om 0 _ H1.o.2.2
 have hok:fH C hd (bH hd).code:=HB.o.1 rfl;have HOKR:=ah hok;clear HB hok;go_wp2_with (first | (refine QA (P:=Tp) rfl 43 _ rfl w.heap.size 0 rfl (coL C s) _ (fZ H1.o.1) Tryz.underlying43 rfl (cy C s) ?_));refine (HCP.o _ H1.o.2.2).mono ?_;rintro o w2 ⟨s2,rfl,hi2,hb2⟩;have HI2:Hid (∀ W,Below w2.heap.size w2 W->St (w.heap.size+2) W (fun X=>aK X C.ho s2)):=fun W hW=>(hi2.mono (by have:=H1.o.2.1.lt;omega)).below hW;have HN2:Hid (blk (w2.alloc (.cells Z35.toArray 54)) w2.heap.size Z35 54):=blk.new w2 _ 54;have H2:Hid (prS w C s hd w2.heap.size Z35 (w2.alloc (.cells Z35.toArray 54))):=⟨(H1.o.1.below hb2).alloc _,(H1.o.2.1.below hb2).alloc _,HN2.o,(H1.o.2.2.trans (hb2.mono H1.o.2.2.size)).alloc (H1.o.2.2.trans (hb2.mono H1.o.2.2.size)).size _,(H1.o.2.1.below hb2).lt⟩
 clear hi2 hb2 H1 HCP;go_upto_region 4 with (first | (refine ja rfl 54 _ rfl _ (by simp[go_sem]) _ (Cb _ C s2) ?_) | (refine QE (P:=Tp) rfl 54 _ _ rfl w2.heap.size 0 (opL C scZ 0 0 (opZ s2)).toArray rfl rfl (HN2.o.there 0 35 (nR _)) (fO _ _ _ _ _) (ey _ _ _ _ _) ?_;generalize hW3:World.setCells (w2.alloc _) w2.heap.size 0 _=w3;have HW3:Hid (_=w3):=hW3;clear hW3))
 have e3:=HW3.o;have H3:Hid (prS w C s hd w2.heap.size (opL C scZ 0 0 (opZ s2)) w3/\Below w2.heap.size w2 w3):=by
  rw[<- e3];exact⟨H2.o.put [] Z35 [] (opL C scZ 0 0 (opZ s2)) rfl,sW (nR _) _ _ ((bW _ _).alloc (nR _) _)⟩
 clear e3 HW3 H2 HN2;generalize w2.heap.size=P at *;have y0:=H3.o.1.x.cell 0 (I J C.p) rfl;have FIN:Hid (∀ (T:Co) (S:Sc) (N cu:Int) (ws:List Nat) (q:Os) (W:Wd),prS w C s hd P (opL T S N cu q) W->g7 C hd (bH hd).code T S N cu ws->St (w.heap.size+2) W (fun X=>eN X T S ws q)->g7 C hd (bH hd).code T S N cu ws/\eN (W.setCells (w.heap.size+1) 0 (opL T S N cu q)) T S ws q/\Below w.heap.size w (W.setCells (w.heap.size+1) 0 (opL T S N cu q))/\blk (W.setCells (w.heap.size+1) 0 (opL T S N cu q)) (w.heap.size+1) (opL T S N cu q) 54):=by
  intro T S N cu ws q W hW hr hi;exact⟨hr,(hi.setCells _ _ om _).now,sW om _ _ hW.b,hW.y.put [] Z35 [] (opL T S N cu q) rfl⟩
 by_cases hp:C.p=1
 .rw[hp] at y0;have HGO:Hid (goL (lt hd)):=fH.go HH.o HOKR.o hp;have y21:=H3.o.1.x.cell 21 (.string hd) rfl;have HP1:Hid (C.p=1):=hp;clear hp;have HSC:Hid (Calls Tp 21 #[.string hd] w3 fun o w'=>∃ a n k c,o = rT (.tuple #[aG (scL (scO (lt hd)) a n k).toArray,I J c])/\iB w' a n k (scO (lt hd)).l/\Below w3.heap.size w3 w'):=tu w3 hd HGO.o;obtain⟨S,eS⟩ : ∃ S,scO (lt hd)=S:=⟨_,rfl⟩
  have HL8:Hid (S.l.length<=8):=by
   have:=(At.of HGO.o _ (nR _)).sim;rw[List.take_length,eS] at this;show _<=_;rw[this.l];exact this.inv.dal
  have HSM:Hid (∀ x ∈ S.l,x<256):=by
   have:=(At.of HGO.o _ (nR _)).sim.small;rw[List.take_length,eS] at this;exact this
  rw[eS] at HSC;have HES:Hid (scO (lt hd)=S):=eS;clear eS;go_wp2_with fail;refine HSC.o.mono ?_;rintro o w4 ⟨a,n,k,c,rfl,hi4,hb4⟩;have H4:Hid (prS w C s hd P (opL C scZ 0 0 (opZ s2)) w4/\Below P w2 w4):=⟨H3.o.1.below hb4,H3.o.2.trans (hb4.mono (qB H3.o.1.p.lt))⟩
  have HI4:Hid (iB w4 a n k S.l):=hi4;clear hi4 hb4 H3 y0 y21 HSC;have HN4:Hid (blk (w4.alloc (.cells z11.toArray 49)) w4.heap.size z11 49):=blk.new w4 _ 49;go_upto_region 7 with (refine QE (P:=Tp) rfl 49 _ _ rfl w4.heap.size 0 (scL S a n k).toArray rfl rfl (HN4.o.there 0 11 (nR _)) dV (iO _ _ _ _) ?_;generalize hW5:World.setCells (w4.alloc _) w4.heap.size 0 _=w5;have HW5:Hid (_=w5):=hW5;clear hW5)
  have e5:=HW5.o;have hb5:Below w4.heap.size w4 w5:=by rw[<- e5];exact sW (nR _) _ _ ((bW _ _).alloc (nR _) _)
  have H5:Hid (prS w C s hd P (opL C scZ 0 0 (opZ s2)) w5/\Below P w2 w5/\blk w5 w4.heap.size (scL S a n k) 49/\iB w5 a n k S.l):=⟨H4.o.1.below hb5,H4.o.2.trans (hb5.mono (qB H4.o.1.p.lt)),by rw[<- e5];exact HN4.o.put [] z11 [] (scL S a n k) rfl,HI4.o.below hb5⟩
  clear e5 hb5 HW5 H4 HI4 HN4;generalize w4.heap.size=Q at *;go_wp2_with (first | (refine QA (P:=Tp) rfl 49 _ rfl Q 0 rfl _ _ H5.o.2.2.1.load Tryz.underlying49 rfl (kJ _ _ _ _) ?_));refine (iV w5 S a n k H5.o.2.2.2 (by have:=HL8.o;have:=H5.o.2.2.2.len;omega)).mono ?_;rintro o w6 ⟨g,k6,rfl,ho6,hb6⟩;have H6:Hid (prS w C s hd P (opL C scZ 0 0 (opZ s2)) w6/\Below P w2 w6/\aa w6 (P+1) (sL (sQ ⟨g,0,nn⟩) n k6) S.l/\n=S.l.length):=⟨H5.o.1.below hb6,H5.o.2.1.trans (hb6.mono (qB H5.o.1.p.lt)),ho6.mono (by have:=H5.o.1.p.lt;omega),H5.o.2.2.2.len⟩
  clear ho6 hb6 H5;go_upto_region 8 with (refine QE (P:=Tp) rfl 49 _ _ rfl P 21 (scL S (sQ ⟨g,0,nn⟩) n k6).toArray rfl rfl (H6.o.1.p.there 21 11 (by rw[uL];decide)) dV (iO _ _ _ _) ?_;generalize hW7:World.setCells w6 P 21 _=w7;have HW7:Hid (_=w7):=hW7;clear hW7)
  obtain⟨q7,e7⟩ : ∃ q:Os,q=⟨s2,sQ ⟨g,0,nn⟩,n,k6,nn,0,0⟩:=⟨_,rfl⟩
  have H7:Hid (prS w C s hd P (opL C S 0 0 q7) w7/\Below P w2 w7/\aa w7 (P+1) (sL q7.a q7.n q7.k) S.l/\q7.n=S.l.length/\q7.s=s2/\q7.aw=nn/\q7.nw=0/\q7.kw=0):=by
   have e:=HW7.o;subst e7;rw[<- e];exact⟨H6.o.1.put (coL C s2) (scL scZ nn 0 0) (pk3 0 nn 0 0 0) (scL S (sQ ⟨g,0,nn⟩) n k6) rfl,sW (nR _) _ _ H6.o.2.1,H6.o.2.2.1.setCells om _ _,H6.o.2.2.2,rfl,rfl,rfl,rfl⟩
  clear HW7 H6 e7;have y6:=H7.o.1.x.cell 6 (bO C.tx) rfl;obtain⟨tx,etx⟩ : ∃ b,C.tx=b:=⟨_,rfl⟩
  rw[etx] at y6;have HTX:Hid (C.tx=tx):=etx;clear etx;have e1:(C.p == 1)=true:=by rw[HP1.o];rfl
  have HEP:Hid ((C.p == 1)=true):=e1;clear e1;cases tx
  .go_wp2_with (first
    | (refine QA (P:=Tp) rfl 54 _ rfl P 0 rfl _ _ H7.o.1.p.load Tryz.underlying54 rfl (eD _ _ _ _ _) ?_)
    | (refine QE (P:=Tp) rfl 54 _ _ rfl (w.heap.size+1) 0 (opL C S 0 0 q7).toArray rfl rfl (H7.o.1.y.there 0 35 (nR _)) (fO _ _ _ _ _) (ey _ _ _ _ _) ?_;generalize hW8:World.setCells w7 (w.heap.size+1) 0 _=w8;have HW8:Hid (_=w8):=hW8;clear hW8))
   have e2:snd C=false:=by unfold snd;rw[HTX.o];simp
   have hr:g7 C hd (bH hd).code C S 0 0 []:=by
    refine qr ⟨HOKR.o,rfl,?_,?_,?_,?_⟩
    .unfold dA;rw[HEP.o,qc rfl,HES.o]
    .unfold gw;rw[e2];rfl
    .unfold gA;rw[e2];rfl
    .unfold dO;rw[e2];rfl
   obtain⟨q1,q2,q3,q4⟩:=FIN.o C S 0 0 [] q7 w7 H7.o.1 hr (fun V hV=>by
    have hh:=HI2.o w7 H7.o.2.1 V hV
    obtain⟨z1,z2,z3,z4,z5,z6,z7,z8⟩:=H7.o
    exact⟨by rw[z5];exact hh,(G.EV z3 fun q h1 h2=>hV q (by have:=z1.q;omega) h2).is HSM.o,by rw[z6,z7,z8];exact si _⟩)
   have e8:w7.setCells (w.heap.size+1) 0 (opL C S 0 0 q7)=w8:=HW8.o;rw[e8] at q2 q3 q4;exact bC Tryz.results6 (QJ (P:=Tp) w8 (w.heap.size+1) 0 54 _ _ q4.load Tryz.underlying54 rfl (eD _ _ _ _ _)) ⟨_,_,_,_,_,_,rfl,q1,q2,q3⟩
  .have HWR:Hid (wrP C.ho.bx):=HOKR.o.1.s.1 ⟨HP1.o,HTX.o⟩;go_wp2_with (first | (refine QA (P:=Tp) rfl 57 _ rfl w.heap.size 0 rfl (rfL C s hd) _ H7.o.1.x.load Tryz.underlying57 rfl vI ?_));refine (pY w7 C s hd true true HEP.o HTX.o (HH.o.below H7.o.1.b) (by have:=HH.o.bx.len;have:=HOKR.o.1.h.n2;omega) (fun _=>HWR.o)).mono ?_;rintro o w8 ⟨rfl,hb8⟩;have H8:Hid (prS w C s hd P (opL C S 0 0 q7) w8/\Below P w2 w8/\aa w8 (P+1) (sL q7.a q7.n q7.k) S.l/\q7.n=S.l.length/\q7.s=s2):=⟨H7.o.1.below hb8,H7.o.2.1.trans (hb8.mono (qB H7.o.1.p.lt)),G.EV H7.o.2.2.1 fun q h1 h2=>hb8.block q h2,H7.o.2.2.2.1,H7.o.2.2.2.2.1⟩
   clear hb8 H7 y6;rw[qc (show (true && true)=true from rfl)];obtain⟨E,eE⟩ : ∃ E,dq C=E:=⟨_,rfl⟩
   have HOT:=ah (Bx HOKR.o.1 HWR.o);have HEE:Hid (dq C=E):=eE;rw[eE] at HOT ⊢;clear eE;have hEz:=HOT.o.2;go_wp2_with fail;refine (py E w8 HOT.o.1 HOT.o.2).mono ?_;rintro o w9 ⟨ao,cp,rfl,ho9,hb9⟩;rw[EH] at ho9;have H9:Hid (prS w C s hd P (opL C S 0 0 q7) w9/\Below P w2 w9/\aa w9 (P+1) (sL q7.a q7.n q7.k) S.l/\q7.n=S.l.length/\q7.s=s2/\an w9 (P+1) (sL ao ((E.size+63) / 64) cp) (wl (lt E))):=⟨H8.o.1.below hb9,H8.o.2.1.trans (hb9.mono (qB H8.o.1.p.lt)),G.EV H8.o.2.2.1 fun q h1 h2=>hb9.block q h2,H8.o.2.2.2.1,H8.o.2.2.2.2,ho9.lower (by have:=H8.o.1.p.lt;omega)⟩
   clear ho9 hb9 H8;go_upto_region 10 with (refine QE (P:=Tp) rfl 52 _ _ rfl P 32 #[I J (E.size:Int),sL ao ((E.size+63) / 64) cp] rfl rfl (H9.o.1.p.there 32 2 (by rw[uL];decide)) (Dh _ _ _ _) (CB _ _ _ _) ?_;generalize hW10:World.setCells w9 P 32 _=w10;have HW10:Hid (_=w10):=hW10;clear hW10)
   obtain⟨r0,er⟩ : ∃ q:Os,q=⟨q7.s,q7.a,q7.n,q7.k,ao,(E.size+63) / 64,cp⟩:=⟨_,rfl⟩
   have H10:Hid (prS w C s hd P (opL C S (E.size:Int) 0 r0) w10/\Below P w2 w10/\aa w10 (P+1) (sL r0.a r0.n r0.k) S.l/\r0.n=S.l.length/\r0.s=s2/\an w10 (P+1) (sL r0.aw r0.nw r0.kw) (wl (lt E))/\r0.nw=(wl (lt E)).length):=by
    have e:=HW10.o;subst er;rw[<- e];have hp:prS w C s hd P ((coL C q7.s++scL S q7.a q7.n q7.k)++[I J 0,sL q7.aw q7.nw q7.kw]++[I J 0]) w9:=by
     have:=H9.o.1;unfold opL pk3 at this;rw[qp _ _ [Value.int .i64 0]];exact this
    refine⟨?_,sW (nR _) _ _ H9.o.2.1,H9.o.2.2.1.setCells om _ _,H9.o.2.2.2.1,H9.o.2.2.2.2.1,H9.o.2.2.2.2.2.setCellsO _ _ _ om,by rw[dT,ba]⟩;have:=hp.put _ _ _ [I J (E.size:Int),sL ao ((E.size+63) / 64) cp] rfl;rw[qp _ _ [Value.int .i64 0]] at this;exact this
   clear HW10 H9 er;have y21:=H10.o.1.x.cell 21 (.string hd) rfl;have y34:=H10.o.1.p.cell 34 (I J 0) rfl;have f34:=H10.o.1.p.free 34;have H11:Hid (prS w C s hd P (opL C S (E.size:Int) (hd.size:Int) r0) (w10.setCell ⟨P,34,nn⟩ (I J (hd.size:Int)))/\Below P w2 (w10.setCell ⟨P,34,nn⟩ (I J (hd.size:Int)))/\aa (w10.setCell ⟨P,34,nn⟩ (I J (hd.size:Int))) (P+1) (sL r0.a r0.n r0.k) S.l/\an (w10.setCell ⟨P,34,nn⟩ (I J (hd.size:Int))) (P+1) (sL r0.aw r0.nw r0.kw) (wl (lt E))):=by
    have oth:∀ q,q≠P->(w10.setCell ⟨P,34,nn⟩ (I J (hd.size:Int))).heap[q]?=w10.heap[q]?:=fun q hq=>QB _ _ _ _ (by exact hq);have h:=H10.o.1;have hq:=h.q;exact⟨⟨h.x.kept (oth _ om),h.y.kept (oth _ om),h.p.set 34 _,h.b.setCell (by show w.heap.size<=P;omega) _,hq⟩,H10.o.2.1.setCell (nR _) _,G.EV H10.o.2.2.1 fun q h1 _=>oth q om,H10.o.2.2.2.2.2.1.keep fun q h1 _=>oth q om⟩
   go_upto_region 11 with fail
   generalize w10.setCell ⟨P,34,nn⟩ (I J (hd.size:Int))=w11 at *;go_wp2_with (first
    | (refine QA (P:=Tp) rfl 54 _ rfl P 0 rfl _ _ H11.o.1.p.load Tryz.underlying54 rfl (eD _ _ _ _ _) ?_)
    | (refine QE (P:=Tp) rfl 54 _ _ rfl (w.heap.size+1) 0 (opL C S (E.size:Int) (hd.size:Int) r0).toArray rfl rfl (H11.o.1.y.there 0 35 (nR _)) (fO _ _ _ _ _) (ey _ _ _ _ _) ?_;generalize hW8:World.setCells w11 (w.heap.size+1) 0 _=w12;have HW8:Hid (_=w12):=hW8;clear hW8))
   have e2:snd C=true:=by unfold snd;rw[HEP.o,HTX.o];rfl
   have hr:g7 C hd (bH hd).code C S (E.size:Int) (hd.size:Int) (wl (lt E)):=by
    refine qr ⟨HOKR.o,rfl,?_,?_,?_,?_⟩
    .unfold dA;rw[HEP.o,qc rfl,HES.o]
    .unfold gw;rw[e2,qc rfl,HEE.o]
    .unfold gA;rw[e2,qc rfl]
    .unfold dO;rw[e2,qc rfl,HEE.o]
   obtain⟨q1,q2,q3,q4⟩:=FIN.o C S (E.size:Int) (hd.size:Int) (wl (lt E)) r0 w11 H11.o.1 hr (fun V hV=>by
    have hh:=HI2.o w11 H11.o.2.1 V hV
    have hq:=H11.o.1.q
    have hw:an V (P+1) (sL r0.aw r0.nw r0.kw) (wl (lt E)):=H11.o.2.2.2.keep fun q h1 h2=>hV q om h2
    exact⟨by rw[H10.o.2.2.2.2.1];exact hh,(G.EV H11.o.2.2.1 fun q h1 h2=>hV q om h2).is HSM.o,hw.words H10.o.2.2.2.2.2.2 (kE _) (hw.cap H10.o.2.2.2.2.2.2)⟩)
   have e8:w11.setCells (w.heap.size+1) 0 (opL C S (E.size:Int) (hd.size:Int) r0)=w12:=HW8.o;rw[e8] at q2 q3 q4;exact bC Tryz.results6 (QJ (P:=Tp) w12 (w.heap.size+1) 0 54 _ _ q4.load Tryz.underlying54 rfl (eD _ _ _ _ _)) ⟨_,_,_,_,_,_,rfl,q1,q2,q3⟩
 .have hp':(C.p != 1)=true:=by simpa using hp
  go_wp2_with (first
   | (refine QA (P:=Tp) rfl 54 _ rfl P 0 rfl _ _ H3.o.1.p.load Tryz.underlying54 rfl (eD _ _ _ _ _) ?_)
   | (refine QE (P:=Tp) rfl 54 _ _ rfl (w.heap.size+1) 0 (opL C scZ 0 0 (opZ s2)).toArray rfl rfl (H3.o.1.y.there 0 35 (nR _)) (fO _ _ _ _ _) (ey _ _ _ _ _) ?_;generalize hW8:World.setCells w3 (w.heap.size+1) 0 _=w8;have HW8:Hid (_=w8):=hW8;clear hW8))
  have hr:g7 C hd (bH hd).code C scZ 0 0 []:=by
   have e1:(C.p == 1)=false:=by simpa using hp
   have e2:snd C=false:=by unfold snd;rw[e1];rfl
   refine qr ⟨HOKR.o,rfl,?_,?_,?_,?_⟩
   .unfold dA;rw[e1];rfl
   .unfold gw;rw[e2];rfl
   .unfold gA;rw[e2];rfl
   .unfold dO;rw[e2];rfl
  obtain⟨q1,q2,q3,q4⟩:=FIN.o C scZ 0 0 [] (opZ s2) w3 H3.o.1 hr (fun V hV=>⟨HI2.o w3 H3.o.2 V hV,xC _,si _⟩);have e8:w3.setCells (w.heap.size+1) 0 (opL C scZ 0 0 (opZ s2))=w8:=HW8.o;rw[e8] at q2 q3 q4;exact bC Tryz.results6 (QJ (P:=Tp) w8 (w.heap.size+1) 0 54 _ _ q4.load Tryz.underlying54 rfl (eD _ _ _ _ _)) ⟨_,_,_,_,_,_,rfl,q1,q2,q3⟩
end Go.Proofs.YtnfmjckkibdcaaaGreatDoor
