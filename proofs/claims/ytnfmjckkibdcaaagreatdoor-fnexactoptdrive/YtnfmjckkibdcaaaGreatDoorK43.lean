import Derived.Test.YtnfmjckkibdcaaaGreatDoorK42
import Derived.Test.YtnfmjckkibdcaaaGreatDoorK40
import Derived.Deep.DeepCutAuto
import Derived.Test.YtnfmjckkibdcaaaGreatDoorK37
import Derived.Test.YtnfmjckkibdcaaaGreatDoorK35
namespace Go.Proofs.YtnfmjckkibdcaaaGreatDoor
open Go.RowKit
set_option linter.all false
open Go.Value renaming int->I,slice->sL,bool->bO,pointer->pT,agg->aG
open Go.IntKind renaming i64->J
open Go.Ending renaming returned->rT
open Go.Proofs.Tryz renaming prog->Tp
structure Os where
 s:Sl
 a:Option Addr
 n:Nat
 k:Nat
 aw:Option Addr
 nw:Nat
 kw:Nat
def pk3 (N:Int) (aw:Option Addr) (nw kw:Nat) (cu:Int):List Value:=[I J N,sL aw nw kw,I J cu]
def opL (T:Co) (S:Sc) (N cu:Int) (o:Os):List Value:=coL T o.s++scL S o.a o.n o.k++pk3 N o.aw o.nw o.kw cu
def uL (T:Co) (S:Sc) (N cu:Int) (o:Os):(opL T S N cu o).length=35:=rfl
def opZ (s:Sl):Os:=⟨s,none,0,0,none,0,0⟩
def zOs:Os:=opZ zSl
def Cs:opL zCo scZ 0 0 zOs=Z35:=rfl
def eD (T:Co) (S:Sc) (N cu:Int) (o:Os):(Tp.info? 54).map (·.size)=some (opL T S N cu o).length:=kr
def fO (T:Co) (S:Sc) (N cu:Int) (o:Os):(Tp.info? 54).map (·.size)=some (opL T S N cu o).toArray.size:=kr
def ey (T:Co) (S:Sc) (N cu:Int) (o:Os):(opL T S N cu o).toArray.all (·.oneCell')=true:=QL (by simp[opL,coL,scL,pk3,Value.oneCell'])
structure eN (W:World) (T:Co) (S:Sc) (ws:List Nat) (o:Os):Prop where
 h:aK W T.ho o.s
 d:iB W o.a o.n o.k S.l
 w:bP W o.aw o.nw o.kw ws
def eN.below {W W':World} {T:Co} {S:Sc} {ws:List Nat} {o:Os} (h:eN W T S ws o) (hb:Bl W W'):eN W' T S ws o:=⟨h.h.below hb,h.d.below hb,h.w.below hb⟩
def si (W:World):bP W none 0 0 []:=⟨rfl,nR _,pQ,fun h=>Qz rfl h⟩
def xC (W:World):iB W none 0 0 scZ.l:=⟨rfl,nR _,pQ,fun h=>Qz rfl h⟩
def xB (W:World):eN W zCo scZ [] zOs:=⟨CT W,xC W,si W⟩
def snd (C:Co):Bool:=C.p == 1 && C.tx
def EH (E:ByteArray):pkL E ((E.size+63) / 64)=wl (lt E):=by
 unfold wl;rw[ya,ba,C4]
def aK.small {w:World} {H:Ho} {s:Sl} (h:aK w H s) (j:Nat) (hj:j<H.bx.length):∀ x ∈ H.bx[j].l,x<256:=by
 obtain⟨g,off,_,hc⟩:=h.bx.cells (fun e=>by rw[e] at hj;cases hj);obtain⟨ao,m,c,h8⟩:=hc j hj;exact h8.dat.small
def kG {C:Co} (h:g9 C) (hw:wrP C.ho.bx) (hk:onI C.ho.bx<C.ho.bx.length):vB C.ho.bx[onI C.ho.bx].e C.ho.bx[onI C.ho.bx].i C.ho.bx[onI C.ho.bx].r C.ho.bx[onI C.ho.bx].d C.ho.bx[onI C.ho.bx].l.length=true:=by
 have h1:=h.h.bx.1 (onI C.ho.bx) hk;have hx:C.ho.bx[onI C.ho.bx].x≠0:=by
  have:=List.findIdx_getElem (xs:=C.ho.bx) (p:=fun b:R8=>b.x == 2 || b.x == 3) (w:=hk);intro e;have h2:(C.ho.bx[onI C.ho.bx].x == 2 || C.ho.bx[onI C.ho.bx].x == 3)=true:=this;rw[e] at h2;simp at h2
 unfold cZ at h1;rw[zb hx] at h1;exact h1.2.2.2
def Bx {C:Co} (h:g9 C) (hw:wrP C.ho.bx):okT (dq C) 4000=true/\(dq C).size<=4000:=by
 obtain⟨h1,h2,h3⟩:=iA C h hw;refine⟨?_,om⟩;unfold okT;rw[qx];refine⟨by simp;omega,List.all_eq_true.2 fun x hx=>?_⟩;obtain⟨j,hj,rfl⟩:=List.getElem_of_mem hx;have hj':j<(dq C).size:=by simpa using hj
 have:=h3 j hj';rw[tI] at this;unfold okC;generalize (dq C).data.toList[j]=y at *;rcases this with e|e
 .have:y=48:=UInt8.toNat_inj.1 e;subst this;rfl
 .have:y=49:=UInt8.toNat_inj.1 e;subst this;rfl
variable {w:World} {B:Nat} {l:List Nat}
def aa.is {a:Option Addr} {n k:Nat} (h:aa w B (sL a n k) l) (hs:∀ x ∈ l,x<256):iB w a n k l:=by
 obtain⟨ao,cp,e,hi⟩:=h.bytes hs;cases e;exact hi
def an.keep {w':World} {v:Value} (h:an w B v l) (hk:∀ q,B<=q->q<w.heap.size->w'.heap[q]?=w.heap[q]?):an w' B v l:=h.otherBlock fun g hg=>hk g (QC h g hg).1 (QC h g hg).2
def Dh (N:Int) (a:Option Addr) (n k:Nat):(Tp.info? 52).map (·.size)=some (#[I J N,sL a n k]:Array Value).size:=kr
def CB (N:Int) (a:Option Addr) (n k:Nat):(#[I J N,sL a n k]:Array Value).all (·.oneCell')=true:=QL (by simp[Value.oneCell'])
set_option maxRecDepth 20000
set_option maxHeartbeats 4000000
def wI {l l':List Nat} {k:Nat} (h:l.take k=l'.take k) (h1:k<l.length) (h2:k<l'.length) (e:l[k]=l'[k]):l.take (k+1)=l'.take (k+1):=by
 rw[qg h1,qg h2,h,e]
def J6 (w:World) (a1 a2:Option Addr) (n1 c1 n2 c2:Nat) (l1 l2:List Nat) (h1:bP w a1 n1 c1 l1) (h2:bP w a2 n2 c2 l2) (hn:n1<=1048576) (hn2:n2<=1048576) :
  Calls Tp 220 #[sL a1 n1 c1,sL a2 n2 c2] w fun o w'=>cK o (l1=l2)/\Bl w w':=by
 have e1:=h1.len;have e2:=h2.len;by_cases hne:n1=n2
 .by_cases hl:l1=[]
  .have hn0:n1=0:=by rw[e1,hl];rfl
   have hl2:l2=[]:=List.length_eq_zero_iff.1 om;have hn0':n2=0:=om;subst hn0 hn0';have HR:Hid (l1=l2):=by show _=_;rw[hl,hl2]
   clear e1 e2 h1 h2 hl hl2 hne;go_enter Tryz.func220,Tryz.ntmps220;go_wp2;go_loopw [13] (fun i wr=>i = I J 0/\wr=w) (fun _ _=>0);case atStart=>exact⟨rfl,rfl⟩
   case round=>
    obtain⟨rfl,rfl⟩:=hrel;go_wp2;go_ret;exact⟨⟨true,rfl,fun _=>HR.o,fun _=>rfl⟩,bW _ _⟩
  .have hl2:l2≠[]:=fun e=>hl (List.length_eq_zero_iff.1 (by rw[<- e1,hne,e2,e];rfl));obtain⟨g1,o1,rfl,k1⟩:=h1.cells hl;obtain⟨g2,o2,rfl,k2⟩:=h2.cells hl2;subst hne;have HE1:Hid (n1=l1.length):=e1;have HE2:Hid (n1=l2.length):=e2;have s1:=h1.small;have s2:=h2.small;have HK1:Hid (∀ j (h:j<l1.length),w.cell? ⟨g1,o1+j,none⟩=some (I .u64 (l1[j]:Int))):=k1;have HK2:Hid (∀ j (h:j<l2.length),w.cell? ⟨g2,o2+j,none⟩=some (I .u64 (l2[j]:Int))):=k2;have HP1:=h1.cap;have HP2:=h2.cap;clear e1 e2 h1 h2 hl hl2 k1 k2 s1 s2;go_enter Tryz.func220,Tryz.ntmps220;go_wp2;go_loopw [13] (fun i wr=>∃ k:Nat,k<=n1/\i = I J k/\l1.take k=l2.take k/\∃ q,wr=w.drewN q) (fun i _=>n1-(intOf i).toNat);case atStart=>exact⟨0,nZ _,rfl,pQ,0,rfl⟩
   case round=>
    obtain⟨k,hk,rfl,ht,q,rfl⟩:=hrel;have HT:=ah ht;clear ht;by_cases hlt:k<n1
    .have j1:k<l1.length:=by rw[<- HE1.o];exact hlt
     have j2:k<l2.length:=by rw[<- HE2.o];exact hlt
     have y1:=HK1.o k j1;have y2:=HK2.o k j2;by_cases hx:l1[k]=l2[k]
     .have HN:Hid (l1.take (k+1)=l2.take (k+1)):=wI HT.o j1 j2 hx;rw[<- hx] at y2;clear hx;generalize l1[k]=x at *;go_wp2;go_quiet (fail);go_wp2;go_roundw;case rel=>exact⟨k+1,om,by go_num,HN.o,_,rfl⟩
      case measure=>simp[intOf];omega
     .have HN:Hid (¬ l1=l2):=fun e=>hx (by subst e;rfl);have hx':¬ (l1[k]:Int)=(l2[k]:Int):=fun e=>hx (by exact_mod_cast e);have hxb:((l1[k]:Int) != (l2[k]:Int))=true:=by simp;exact hx'
      clear hx;generalize l1[k]=x at *;generalize l2[k]=y at *;go_wp2;go_quiet (fail);go_wp2;go_ret;exact⟨⟨false,rfl,fun e=>(by cases e),fun e=>Qz e HN.o⟩,QR (dv _ _) _⟩
    .have hkn:k=n1:=om;subst hkn;have HR:Hid (l1=l2):=by
      have:=HT.o;rw[ze (by rw[<- HE1.o];exact nR _),ze (by rw[<- HE2.o];exact nR _)] at this;exact this
     go_wp2;go_ret;exact⟨⟨true,rfl,fun _=>HR.o,fun _=>rfl⟩,dv _ _⟩
 .have HN:Hid (¬ l1=l2):=fun e=>hne (by rw[e1,e2,e]);have hne':((n1:Int) != (n2:Int))=true:=by simp;omega
  clear e1 e2 h1 h2;go_enter Tryz.func220,Tryz.ntmps220;go_wp2;go_ret;exact⟨⟨false,rfl,fun e=>(by cases e),fun e=>Qz e HN.o⟩,bW _ _⟩
def I9 (w:World) (N N':Int) (a1 a2:Option Addr) (n1 c1 n2 c2:Nat) (l1 l2:List Nat) (h1:bP w a1 n1 c1 l1) (h2:bP w a2 n2 c2 l2) (hn:n1<=1048576) (hn2:n2<=1048576) :
  Calls Tp 162 #[pkV N a1 n1 c1,pkV N' a2 n2 c2] w fun o w'=>cK o (N=N'/\l1=l2)/\Bl w w':=by
 have HB:Hid (Bl w ((w.alloc (.cells #[I J N,sL a1 n1 c1] 52)).alloc (.cells #[I J N',sL a2 n2 c2] 52))):=qw.alloc pQ _;have HE:Hid (∀ W,Bl w W->Calls Tp 220 #[sL a1 n1 c1,sL a2 n2 c2] W fun o w'=>cK o (l1=l2)/\Bl W w'):=fun W hW=>J6 W _ _ _ _ _ _ _ _ (h1.below hW) (h2.below hW) hn hn2;clear h1 h2 hn hn2;by_cases hN:N=N'
 .subst hN;go_enter Tryz.func162,Tryz.ntmps162;go_wp2_with fail;refine (HE.o _ HB.o).mono ?_;rintro o w1 ⟨⟨b,rfl,hb⟩,hb1⟩;have H1:Hid (Bl w w1):=HB.o.trans (hb1.mono HB.o.size);have H2:=ah hb;clear hb hb1;go_wp2;go_ret;exact⟨⟨b,rfl,fun e=>⟨by trivial,H2.o.1 e⟩,fun e=>H2.o.2 e.2⟩,H1.o⟩
 .have hNb:(N == N')=false:=by simpa using hN
  have HN:=ah hN;clear hN;go_enter Tryz.func162,Tryz.ntmps162;go_wp2;go_ret;exact⟨⟨false,rfl,fun e=>(by cases e),fun e=>Qz e.1 HN.o⟩,HB.o⟩
def Jn (w:World) (N N':Int) (a1 a2:Option Addr) (n1 c1 n2 c2:Nat) (l1 l2:List Nat) (h1:bP w a1 n1 c1 l1) (h2:bP w a2 n2 c2 l2) (hn:n1<=1048576) (hn2:n2<=1048576) :
  Calls Tp 81 #[pkV N a1 n1 c1,pkV N' a2 n2 c2] w fun o w'=>cK o (N=N'/\l1=l2)/\Bl w w':=by
 have HB:Hid (Bl w ((w.alloc (.cells #[I J N,sL a1 n1 c1] 52)).alloc (.cells #[I J N',sL a2 n2 c2] 52))):=qw.alloc pQ _;have HX:Hid (blk ((w.alloc (.cells #[I J N,sL a1 n1 c1] 52)).alloc (.cells #[I J N',sL a2 n2 c2] 52)) w.heap.size [I J N,sL a1 n1 c1] 52):=(blk.new w _ 52).alloc _;have HY:Hid (blk ((w.alloc (.cells #[I J N,sL a1 n1 c1] 52)).alloc (.cells #[I J N',sL a2 n2 c2] 52)) (w.heap.size+1) [I J N',sL a2 n2 c2] 52):=by
  show blk _ _ _ _;have:=blk.new (w.alloc (.cells #[I J N,sL a1 n1 c1] 52)) [I J N',sL a2 n2 c2] 52;simpa using this
 obtain⟨v0,hv0⟩ : ∃ v0,v0=(w.alloc (.cells #[I J N,sL a1 n1 c1] 52)).alloc (.cells #[I J N',sL a2 n2 c2] 52):=⟨_,rfl⟩
 rw[<- hv0] at HB HX HY;replace h1:=h1.below HB.o
 replace h2:=h2.below HB.o
 have x0:=HX.o.cell 0 _ rfl;have x1:=HX.o.cell 1 _ rfl;have y0:=HY.o.cell 0 _ rfl;have y1:=HY.o.cell 1 _ rfl;clear HX HY;have E1:=ah h1.len;have E2:=ah h2.len;have H1:=ah h1;have H2:=ah h2;clear h1 h2;go_enter Tryz.func81,Tryz.ntmps81;go_upto_region 1 with fail
 change Code.wp _ _ _ _ ((w.alloc (.cells #[I J N,sL a1 n1 c1] 52)).alloc (.cells #[I J N',sL a2 n2 c2] 52));rw[<- hv0];clear hv0;by_cases hN:N=N'
 .subst hN;by_cases hne:n1=n2
  .subst hne;have HE1:Hid (n1=l1.length):=E1;have HE2:Hid (n1=l2.length):=E2;have HK1:Hid (bP v0 a1 n1 c1 l1):=H1;have HK2:Hid (bP v0 a2 n1 c2 l2):=H2;go_wp2;go_loopw [5] (fun i wr=>∃ k:Nat,k<=n1/\i = I J k/\l1.take k=l2.take k/\∃ q,wr=v0.drewN q) (fun i _=>n1-(intOf i).toNat);case atStart=>exact⟨0,nZ _,rfl,pQ,0,rfl⟩
   case round=>
    obtain⟨k,hk,rfl,ht,q,rfl⟩:=hrel;have HT:=ah ht;clear ht;by_cases hlt:k<n1
    .have j1:k<l1.length:=by rw[<- HE1.o];exact hlt
     have j2:k<l2.length:=by rw[<- HE2.o];exact hlt
     obtain⟨g1,o1,rfl,k1⟩:=HK1.o.cells (fun e=>by rw[e] at j1;cases j1);obtain⟨g2,o2,rfl,k2⟩:=HK2.o.cells (fun e=>by rw[e] at j2;cases j2);have z1:=k1 k j1;have z2:=k2 k j2;have p1:=HK1.o.cap;have p2:=HK2.o.cap;clear k1 k2;by_cases hx:l1[k]=l2[k]
     .have HN:Hid (l1.take (k+1)=l2.take (k+1)):=wI HT.o j1 j2 hx;rw[<- hx] at z2;clear hx;generalize l1[k]=x at *;go_wp2;go_quiet (fail);go_wp2;go_roundw;case rel=>exact⟨k+1,om,by go_num,HN.o,_,rfl⟩
      case measure=>simp[intOf];omega
     .have HN:Hid (¬ l1=l2):=fun e=>hx (by subst e;rfl);have hx':¬ (l1[k]:Int)=(l2[k]:Int):=fun e=>hx (by exact_mod_cast e);have hxb:((l1[k]:Int) != (l2[k]:Int))=true:=by simp;exact hx'
      clear hx;generalize l1[k]=x at *;generalize l2[k]=y at *;go_wp2;go_quiet (fail);go_wp2;go_ret;exact⟨⟨false,rfl,fun e=>(by cases e),fun e=>Qz e HN.o⟩,QR HB.o _⟩
    .have hkn:k=n1:=om;subst hkn;have HR:Hid (l1=l2):=by
      have:=HT.o;rw[ze (by rw[<- HE1.o];exact nR _),ze (by rw[<- HE2.o];exact nR _)] at this;exact this
     go_wp2;go_ret;exact⟨⟨true,rfl,fun _=>HR.o,fun _=>rfl⟩,QR HB.o _⟩
  .have HN:Hid (¬ l1=l2):=fun e=>hne (by rw[E1.o,E2.o,e]);have hne':((n1:Int) != (n2:Int))=true:=by simp;omega
   go_wp2;go_ret;exact⟨⟨false,rfl,fun e=>(by cases e),fun e=>Qz e HN.o⟩,HB.o⟩
 .have hNb:(N != N')=true:=by simpa using hN
  have HN:=ah hN;clear hN;go_wp2;go_ret;exact⟨⟨false,rfl,fun e=>(by cases e),fun e=>Qz e.1 HN.o⟩,HB.o⟩
open Go.IntKind renaming i64->J,u32->zn
def eqN {i j:Nat} (h:((i:Int) == (j:Int))=true):i=j:=by
 have:(i:Int)=(j:Int):=by simpa using h
 omega
def JY (w:World) (e:Bool) (i:Nat) (r:Bool) (d:Int) (a1:Option Addr) (n1 c1:Nat) (l1:List Nat) (h1:iB w a1 n1 c1 l1)
  (e':Bool) (i':Nat) (r':Bool) (d':Int) (a2:Option Addr) (n2 c2:Nat) (l2:List Nat) (h2:iB w a2 n2 c2 l2) (hn:n1<=1048576) (hn2:n2<=1048576) :
  Calls Tp 154 #[frV e i r d a1 n1 c1,frV e' i' r' d' a2 n2 c2] w fun o w'=>cK o (e=e'/\i=i'/\r=r'/\d=d'/\l1=l2)/\Bl w w':=by
 have HB:Hid (Bl w ((w.alloc (.cells #[bO e,I zn (i:Int),bO r,I J d,sL a1 n1 c1] 47)).alloc (.cells #[bO e',I zn (i':Int),bO r',I J d',sL a2 n2 c2] 47))):=qw.alloc pQ _;have HX:Hid (blk ((w.alloc (.cells #[bO e,I zn (i:Int),bO r,I J d,sL a1 n1 c1] 47)).alloc (.cells #[bO e',I zn (i':Int),bO r',I J d',sL a2 n2 c2] 47)) w.heap.size [bO e,I zn (i:Int),bO r,I J d,sL a1 n1 c1] 47):=(blk.new w _ 47).alloc _;have HY:Hid (blk ((w.alloc (.cells #[bO e,I zn (i:Int),bO r,I J d,sL a1 n1 c1] 47)).alloc (.cells #[bO e',I zn (i':Int),bO r',I J d',sL a2 n2 c2] 47)) (w.heap.size+1) [bO e',I zn (i':Int),bO r',I J d',sL a2 n2 c2] 47):=by
  show blk _ _ _ _;have:=blk.new (w.alloc (.cells #[bO e,I zn (i:Int),bO r,I J d,sL a1 n1 c1] 47)) [bO e',I zn (i':Int),bO r',I J d',sL a2 n2 c2] 47;simpa using this
 obtain⟨v0,hv0⟩ : ∃ v0,v0=(w.alloc (.cells #[bO e,I zn (i:Int),bO r,I J d,sL a1 n1 c1] 47)).alloc (.cells #[bO e',I zn (i':Int),bO r',I J d',sL a2 n2 c2] 47):=⟨_,rfl⟩
 rw[<- hv0] at HB HX HY;have E1:=ah h1.len;have E2:=ah h2.len;have H1:=ah (h1.below HB.o);have H2:=ah (h2.below HB.o);obtain⟨X,HR⟩ : ∃ X:Prop,Hid (X↔(e=e'/\i=i'/\r=r'/\d=d'/\l1=l2)):=⟨_,Iff.rfl⟩
 have key:Calls Tp 154 #[frV e i r d a1 n1 c1,frV e' i' r' d' a2 n2 c2] w fun o w'=>cK o X/\Bl w w':=by
  have x0:=HX.o.cell 0 _ rfl;have x1:=HX.o.cell 1 _ rfl;have x2:=HX.o.cell 2 _ rfl;have x3:=HX.o.cell 3 _ rfl;have x4:=HX.o.cell 4 _ rfl;have y0:=HY.o.cell 0 _ rfl;have y1:=HY.o.cell 1 _ rfl;have y2:=HY.o.cell 2 _ rfl;have y3:=HY.o.cell 3 _ rfl;have y4:=HY.o.cell 4 _ rfl;clear HX HY h1 h2;go_enter Tryz.func154,Tryz.ntmps154;go_upto_region 1 with fail
  change Code.wp _ _ _ _ ((w.alloc (.cells #[bO e,I zn (i:Int),bO r,I J d,sL a1 n1 c1] 47)).alloc (.cells #[bO e',I zn (i':Int),bO r',I J d',sL a2 n2 c2] 47));rw[<- hv0];clear hv0;cases q1:(e == e')
  .have HN:Hid (¬ X):=fun x=>by have:=(HR.o.1 x).1;rw[this] at q1;simp at q1
   have q1':(e != e')=true:=by rw[bne,q1];rfl
   go_wp2;go_ret;exact⟨⟨false,rfl,fun e=>(by cases e),fun e=>Qz e HN.o⟩,HB.o⟩
  have q1':(e != e')=false:=by rw[bne,q1];rfl
  cases q2:((i:Int) == (i':Int))
  .have HN:Hid (¬ X):=fun x=>by have:=(HR.o.1 x).2.1;rw[this] at q2;simp at q2
   have q2':((i:Int) != (i':Int))=true:=by rw[bne,q2];rfl
   go_wp2;go_ret;exact⟨⟨false,rfl,fun e=>(by cases e),fun e=>Qz e HN.o⟩,HB.o⟩
  have q2':((i:Int) != (i':Int))=false:=by rw[bne,q2];rfl
  cases q3:(r == r')
  .have HN:Hid (¬ X):=fun x=>by have:=(HR.o.1 x).2.2.1;rw[this] at q3;simp at q3
   have q3':(r != r')=true:=by rw[bne,q3];rfl
   go_wp2;go_ret;exact⟨⟨false,rfl,fun e=>(by cases e),fun e=>Qz e HN.o⟩,HB.o⟩
  have q3':(r != r')=false:=by rw[bne,q3];rfl
  cases q4:(d == d')
  .have HN:Hid (¬ X):=fun x=>by have:=(HR.o.1 x).2.2.2.1;rw[this] at q4;simp at q4
   have q4':(d != d')=true:=by rw[bne,q4];rfl
   go_wp2;go_ret;exact⟨⟨false,rfl,fun e=>(by cases e),fun e=>Qz e HN.o⟩,HB.o⟩
  have q4':(d != d')=false:=by rw[bne,q4];rfl
  cases q5:((n1:Int) == (n2:Int))
  .have HN:Hid (¬ X):=fun x=>by have:=(HR.o.1 x).2.2.2.2;rw[E1.o,E2.o,this] at q5;simp at q5
   have q5':((n1:Int) != (n2:Int))=true:=by rw[bne,q5];rfl
   go_wp2;go_ret;exact⟨⟨false,rfl,fun e=>(by cases e),fun e=>Qz e HN.o⟩,HB.o⟩
  have q5':((n1:Int) != (n2:Int))=false:=by rw[bne,q5];rfl
  have HRR:Hid (l1=l2->X):=fun h=>HR.o.2 ⟨by simpa using q1,eqN q2,by simpa using q3,by simpa using q4,h⟩;have hne:n1=n2:=eqN q5;have HE2:Hid (n1=l2.length):=by show _=_;rw[hne];exact E2.o
  go_wp2;go_loopw [5] (fun i wr=>∃ k:Nat,k<=n1/\i = I J k/\l1.take k=l2.take k/\∃ q,wr=v0.drewN q) (fun i _=>n1-(intOf i).toNat);case atStart=>exact⟨0,nZ _,rfl,pQ,0,rfl⟩
  case round=>
   obtain⟨k,hk,rfl,ht,q,rfl⟩:=hrel;have HT:=ah ht;clear ht;by_cases hlt:k<n1
   .have j1:k<l1.length:=by rw[<- E1.o];exact hlt
    have j2:k<l2.length:=by rw[<- HE2.o];exact hlt
    obtain⟨g1,o1,rfl,k1⟩:=H1.o.cells (fun e=>by rw[e] at j1;cases j1);obtain⟨g2,o2,rfl,k2⟩:=H2.o.cells (fun e=>by rw[e] at j2;cases j2);have z1:=k1 k j1;have z2:=k2 k j2;have p1:=H1.o.cap;have p2:=H2.o.cap;have hlt2:k<n2:=om;clear k1 k2;by_cases hx:l1[k]=l2[k]
    .have HN:Hid (l1.take (k+1)=l2.take (k+1)):=wI HT.o j1 j2 hx;rw[<- hx] at z2;clear hx;generalize l1[k]=x at *;clear hne;go_wp2;go_quiet (fail);go_wp2;go_roundw;case rel=>exact⟨k+1,om,by go_num,HN.o,_,rfl⟩
     case measure=>simp[intOf];omega
    .have HN:Hid (¬ X):=fun e=>hx (by have:=(HR.o.1 e).2.2.2.2;subst this;rfl);have hx':¬ (l1[k]:Int)=(l2[k]:Int):=fun e=>hx (by exact_mod_cast e);have hxb:((l1[k]:Int) != (l2[k]:Int))=true:=by simp;exact hx'
     clear hx;generalize l1[k]=x at *;generalize l2[k]=y at *;clear hne;go_wp2;go_quiet (fail);go_wp2;go_ret;exact⟨⟨false,rfl,fun e=>(by cases e),fun e=>Qz e HN.o⟩,QR (QR HB.o _) _⟩
   .have hkn:k=n1:=om;subst hkn;have HRX:Hid X:=by
     have:=HT.o;rw[ze (by rw[<- E1.o];exact nR _),ze (by rw[<- HE2.o];exact nR _)] at this;exact HRR.o this
    clear hne;go_wp2;go_ret;exact⟨⟨true,rfl,fun _=>HRX.o,fun _=>rfl⟩,QR HB.o _⟩
 refine key.mono ?_;rintro o w' ⟨⟨b,rfl,hb⟩,hb'⟩;exact⟨⟨b,rfl,hb.trans HR.o⟩,hb'⟩
def mkA (S:Sc):Array Value:=#[I J S.f,I J S.lf,I J S.rn,I J S.lv,I J S.cr,I J S.ac]
def mkQ (S T:Sc):Bool:=(S.f == T.f) && ((S.lf == T.lf) && ((S.rn == T.rn) && ((S.lv == T.lv) && ((S.cr == T.cr) && (S.ac == T.ac)))))
def IM : (Tp.fieldsOf 277).toList.map (fun f => (f.type, f.offset, decide (f.name ≠ "_"))) = [(3, 0, true), (3, 1, true), (3, 2, true), (3, 3, true), (3, 4, true), (3, 5, true)] := by kernel_rfl
def JR:Tp.underlying 277=some (.struct (Tp.fieldsOf 277)):=kr
def JJ:Tp.stoodInHeld 277=false:=kr
def vS (w : World) (d : Nat) (xs ys : Array Value) (f : Field) (fs : List Field) (a b : Int) (hn : decide (f.name ≠ "_") = true) (ht : f.type = 3) (ha : (part 3 xs f.offset).run Tp w = .ok (I J a) w) (hb : (part 3 ys f.offset).run Tp w = .ok (I J b) w) (R : Bool) (hr : (Op.eqFields (d + 1) xs ys fs).run Tp w = .ok R w) :
  (Op.eqFields (d+1) xs ys (f :: fs)).run Tp w = .ok ((a == b) && R) w:=by
 have hn' : f.name ≠ "_" := qP hn;unfold Op.eqFields;rw[zc hn',ht];simp only[Q8,ha,hb,Result.andThen_ok,run_equalIn_int w d 3 .i64 .i64 a b Tryz.underlying3];cases (a == b)
 .simp
 .simp[hr]
def JL (w:World) (S T:Sc):(Op.equalIn 10000 277 (aG (mkA S)) (aG (mkA T))).run Tp w = .ok (mkQ S T) w:=by
 rw[run_equalIn_struct w 9999 277 _ _ JR JJ];have h:=IM;generalize (Tp.fieldsOf 277).toList=fs at *;rcases fs with _|⟨f0,_|⟨f1,_|⟨f2,_|⟨f3,_|⟨f4,_|⟨f5,_|⟨f6,fs⟩⟩⟩⟩⟩⟩⟩
 all_goals first | (simp at h;done) | skip
 case cons.cons.cons.cons.cons.cons.nil=>
  simp only[Qy,List.map_nil,List.cons.injEq,Prod.mk.injEq,and_true] at h;obtain⟨⟨t0,o0,n0⟩,⟨t1,o1,n1⟩,⟨t2,o2,n2⟩,⟨t3,o3,n3⟩,⟨t4,o4,n4⟩,⟨t5,o5,n5⟩⟩:=h;unfold mkQ;refine vS w 9998 _ _ f0 _ _ _ n0 t0 (by rw[o0];kernel_rfl) (by rw[o0];kernel_rfl) _ ?_;refine vS w 9998 _ _ f1 _ _ _ n1 t1 (by rw[o1];kernel_rfl) (by rw[o1];kernel_rfl) _ ?_;refine vS w 9998 _ _ f2 _ _ _ n2 t2 (by rw[o2];kernel_rfl) (by rw[o2];kernel_rfl) _ ?_;refine vS w 9998 _ _ f3 _ _ _ n3 t3 (by rw[o3];kernel_rfl) (by rw[o3];kernel_rfl) _ ?_;refine vS w 9998 _ _ f4 _ _ _ n4 t4 (by rw[o4];kernel_rfl) (by rw[o4];kernel_rfl) _ ?_;have:=vS w 9998 (mkA S) (mkA T) f5 [] S.ac T.ac n5 t5 (by rw[o5];kernel_rfl) (by rw[o5];kernel_rfl) true (by simp[Op.eqFields]);simpa using this
def Il:Tp.eqGuardType Tp.depth 277=false:=kr
def GJ (w:World) (S:Sc) (a:Option Addr) (n cap:Nat) :
  Calls Tp 221 #[scV S a n cap] w fun o w'=>o = rT (aG (mkA S))/\Bl w w':=by
 obtain⟨f,lf,rn,lv,cr,ac,e,i,r,d,l⟩:=S;go_enter Tryz.func221,Tryz.ntmps221;go_wp2;refine QF (v:=aG (mkA ⟨f,lf,rn,lv,cr,ac,e,i,r,d,l⟩)) (by simp[results,Tryz.results221,go_sem,mkA]) rfl ⟨rfl,?_⟩
 first
  | exact qw.alloc pQ _
  | ((repeat refine Below.setCell ?_ pQ _);exact qw.alloc pQ _)
variable {w:World} {a:Option Addr} {n k:Nat}
def Hl {b:Nat} {S:Sc} {T:TypeId} (h:blk w b (scL S a n k) T):w.rangeAt b 6 [bO S.e,I .u32 (S.i:Int),bO S.r,I J S.d,sL a n k]:=blk.loadAt [I J S.f,I J S.lf,I J S.rn,I J S.lv,I J S.cr,I J S.ac] _ [] h
def frQ (S T:Sc):Bool:=(S.e == T.e) && (S.r == T.r) && ((S.i:Int) == (T.i:Int)) && (S.d == T.d) && decide (S.l=T.l)
def JP (S T:Sc):(mkQ S T && frQ S T)=true↔S=T:=by
 obtain⟨f,lf,rn,lv,cr,ac,e,i,r,d,l⟩:=S;obtain⟨f',lf',rn',lv',cr',ac',e',i',r',d',l'⟩:=T;simp only[mkQ,frQ,qx,beq_iff_eq,qQ,Sc.mk.injEq];constructor
 .rintro⟨⟨h1,h2,h3,h4,h5,h6⟩,⟨⟨⟨h7,h8⟩,h9⟩,h10⟩,h11⟩;exact⟨h1,h2,h3,h4,h5,h6,h7,om,h8,h10,h11⟩
 .rintro⟨h1,h2,h3,h4,h5,h6,h7,h8,h9,h10,h11⟩;exact⟨⟨h1,h2,h3,h4,h5,h6⟩,⟨⟨⟨h7,h9⟩,by rw[h8]⟩,h10⟩,h11⟩
structure twS (w:World) (S T:Sc) (a:Option Addr) (n k:Nat) (a':Option Addr) (n' k':Nat) (W:World):Prop where
 p:blk W w.heap.size (scL S a n k) 49
 q:blk W (w.heap.size+1) (scL T a' n' k') 49
 b:Bl w W
def twS.below {S T:Sc} {a':Option Addr} {n' k':Nat} {W W':World} (h:twS w S T a n k a' n' k' W) (hb:Bl W W'):twS w S T a n k a' n' k' W':=⟨h.p.below hb,h.q.below hb,h.b.trans (hb.mono h.b.size)⟩
def twS.new (w:World) (S T:Sc) (a:Option Addr) (n k:Nat) (a':Option Addr) (n' k':Nat):twS w S T a n k a' n' k' ((w.alloc (.cells (scL S a n k).toArray 49)).alloc (.cells (scL T a' n' k').toArray 49)):=by
 refine⟨(blk.new w _ 49).alloc _,?_,qw.alloc pQ _⟩;have:=blk.new (w.alloc (.cells (scL S a n k).toArray 49)) (scL T a' n' k') 49;simpa using this
def I8 (w:World) (S T:Sc) (a:Option Addr) (n k:Nat) (a':Option Addr) (n' k':Nat) (h1:iB w a n k S.l) (h2:iB w a' n' k' T.l) :
  Calls Tp 163 #[aG (scL S a n k).toArray,aG (scL T a' n' k').toArray] w fun o w'=>cK o (S=T)/\Bl w w':=by
 have HE:=ah (JP S T);have key:Calls Tp 163 #[aG (scL S a n k).toArray,aG (scL T a' n' k').toArray] w fun o w'=>o = rT (bO (mkQ S T && frQ S T))/\Bl w w':=by
  have HN:=ah (twS.new w S T a n k a' n' k');obtain⟨v0,hv0⟩ : ∃ v0,v0=(w.alloc (.cells (scL S a n k).toArray 49)).alloc (.cells (scL T a' n' k').toArray 49):=⟨_,rfl⟩
  rw[<- hv0] at HN;have HF:Hid (∀ W,twS w S T a n k a' n' k' W->Calls Tp 211 #[frV S.e S.i S.r S.d a n k,frV T.e T.i T.r T.d a' n' k'] W fun o w'=>o = rT (bO (frQ S T))/\Bl W w'):=fun W hW=>pC W _ _ _ _ _ _ _ _ (h1.below hW.b) _ _ _ _ _ _ _ _ (h2.below hW.b);clear h1 h2 HE;have hq:=fun w=>JL w S T;have hgd:=Il;generalize frQ S T=fq at *;obtain⟨m,hm⟩ : ∃ m,mkQ S T=m:=⟨_,rfl⟩
  rw[hm] at hq ⊢;clear hm;go_enter Tryz.func163,Tryz.ntmps163;go_upto_region 1 with fail
  change Code.wp _ _ _ _ ((w.alloc (.cells (scL S a n k).toArray 49)).alloc (.cells (scL T a' n' k').toArray 49));rw[<- hv0];clear hv0;refine QK (S:=fun X=>twS w S T a n k a' n' k' X) kr ?_;have hS:twS w S T a n k a' n' k' v0.drew:=HN.o.below (bW _ _).drew;clear HN;refine wU 0 (aG (scL S a n k).toArray) rfl (QM (by rfl) 49 (.tmp 2) rfl w.heap.size 0 rfl (scL S a n k) _ (fun X h=>h.p.load) Tryz.underlying49 rfl (kJ _ _ _ _)) hS ?_;simp only[Act.put,aA,aB,aC,aD,aE];refine wU 2 (aG (scL T a' n' k').toArray) rfl (QM (by rfl) 49 (.tmp 3) rfl (w.heap.size+1) 0 rfl (scL T a' n' k') _ (fun X h=>h.q.load) Tryz.underlying49 rfl (kJ _ _ _ _)) hS ?_;simp only[aZ];refine al 1 fun K hK=>?_;go_simp;refine (GJ _ S a n k).mono ?_;rintro o w1 ⟨rfl,hb1⟩;go_wp2_with fail;refine hK.out _ _ (hS.below hb1) (fun hS2=>?_);clear hS hK K hb1;have hS:=hS2;clear hS2;refine al 3 fun K hK=>?_;go_simp;refine (GJ _ T a' n' k').mono ?_;rintro o w2 ⟨rfl,hb1⟩;go_wp2_with fail;refine hK.out _ _ (hS.below hb1) (fun hS2=>?_);clear hS hK K hb1;have hS:=hS2;clear hS2;refine tk 4 ?_;refine tk 5 ?_;cases m
  .refine tn 6 ?_;refine tn 7 ?_;refine tn 8 ?_;refine tn 9 ?_;refine tn 10 ?_;refine tk 11 ?_;refine tk 12 ?_;have hbl:=hS.b;refine QI kr ?_ _;clear hS;go_wp2;go_ret;exact⟨rfl,hbl⟩
  .refine tk 6 ?_;refine tk 8 ?_;refine wU 7 (frV S.e S.i S.r S.d a n k) rfl (QM (by rfl) 47 (.tmp 11) rfl w.heap.size 6 rfl [bO S.e,I .u32 (S.i:Int),bO S.r,I J S.d,sL a n k] _ (fun X h=>Hl h.p) Tryz.underlying47 rfl jc) hS ?_;simp only[aZ];refine wU 9 (frV T.e T.i T.r T.d a' n' k') rfl (QM (by rfl) 47 (.tmp 13) rfl (w.heap.size+1) 6 rfl [bO T.e,I .u32 (T.i:Int),bO T.r,I J T.d,sL a' n' k'] _ (fun X h=>Hl h.q) Tryz.underlying47 rfl jc) hS ?_;simp only[aZ];refine al 10 fun K hK=>?_;rw[zc (by rfl)];go_simp;refine (HF.o _ hS).mono ?_;rintro o w3 ⟨rfl,hb1⟩;go_wp2_with fail;refine hK.out _ _ (hS.below hb1) (fun hS2=>?_);clear hS hK K hb1;have hS:=hS2;clear hS2;refine tk 11 ?_;refine tk 12 ?_;have hbl:=hS.b;refine QI kr ?_ _;clear hS;go_wp2;go_ret;exact⟨pQ,hbl⟩
 refine key.mono ?_;rintro o w' ⟨rfl,hb⟩;exact⟨⟨_,rfl,HE.o⟩,hb⟩
def Jm (w:World) (S T:Sc) (a:Option Addr) (n k:Nat) (a':Option Addr) (n' k':Nat) (h1:iB w a n k S.l) (h2:iB w a' n' k' T.l) (hn:n<=1048576) (hn2:n'<=1048576) :
  Calls Tp 82 #[aG (scL S a n k).toArray,aG (scL T a' n' k').toArray] w fun o w'=>cK o (S=T)/\Bl w w':=by
 have HN:=ah (twS.new w S T a n k a' n' k');obtain⟨v0,hv0⟩ : ∃ v0,v0=(w.alloc (.cells (scL S a n k).toArray 49)).alloc (.cells (scL T a' n' k').toArray 49):=⟨_,rfl⟩
 rw[<- hv0] at HN;obtain⟨X,HR⟩ : ∃ X:Prop,Hid (X↔S=T):=⟨_,Iff.rfl⟩
 have key:Calls Tp 82 #[aG (scL S a n k).toArray,aG (scL T a' n' k').toArray] w fun o w'=>cK o X/\Bl w w':=by
  have HF:Hid (∀ W,twS w S T a n k a' n' k' W->Calls Tp 154 #[frV S.e S.i S.r S.d a n k,frV T.e T.i T.r T.d a' n' k'] W fun o w'=>cK o (S.e=T.e/\S.i=T.i/\S.r=T.r/\S.d=T.d/\S.l=T.l)/\Bl W w'):=fun W hW=>JY W _ _ _ _ _ _ _ _ (h1.below hW.b) _ _ _ _ _ _ _ _ (h2.below hW.b) hn hn2;clear h1 h2;go_enter Tryz.func82,Tryz.ntmps82;go_upto_region 1 with fail
  change Code.wp _ _ _ _ ((w.alloc (.cells (scL S a n k).toArray 49)).alloc (.cells (scL T a' n' k').toArray 49));rw[<- hv0];clear hv0;have HB:Hid (Bl w v0):=HN.o.b;have x0:=HN.o.p.cell 0 _ rfl;have y0:=HN.o.q.cell 0 _ rfl;have x1:=HN.o.p.cell 1 _ rfl;have y1:=HN.o.q.cell 1 _ rfl;have x2:=HN.o.p.cell 2 _ rfl;have y2:=HN.o.q.cell 2 _ rfl;have x3:=HN.o.p.cell 3 _ rfl;have y3:=HN.o.q.cell 3 _ rfl;have x4:=HN.o.p.cell 4 _ rfl;have y4:=HN.o.q.cell 4 _ rfl;have x5:=HN.o.p.cell 5 _ rfl;have y5:=HN.o.q.cell 5 _ rfl;cases q0:(S.f == T.f)
  .have HX:Hid (¬ X):=fun x=>by have:=congrArg Sc.f (HR.o.1 x);rw[this] at q0;simp at q0
   go_wp2;go_ret;exact⟨⟨false,rfl,fun e=>(by cases e),fun e=>Qz e HX.o⟩,HB.o⟩
  cases q1:(S.lf == T.lf)
  .have HX:Hid (¬ X):=fun x=>by have:=congrArg Sc.lf (HR.o.1 x);rw[this] at q1;simp at q1
   go_wp2;go_ret;exact⟨⟨false,rfl,fun e=>(by cases e),fun e=>Qz e HX.o⟩,HB.o⟩
  cases q2:(S.rn == T.rn)
  .have HX:Hid (¬ X):=fun x=>by have:=congrArg Sc.rn (HR.o.1 x);rw[this] at q2;simp at q2
   go_wp2;go_ret;exact⟨⟨false,rfl,fun e=>(by cases e),fun e=>Qz e HX.o⟩,HB.o⟩
  cases q3:(S.lv == T.lv)
  .have HX:Hid (¬ X):=fun x=>by have:=congrArg Sc.lv (HR.o.1 x);rw[this] at q3;simp at q3
   go_wp2;go_ret;exact⟨⟨false,rfl,fun e=>(by cases e),fun e=>Qz e HX.o⟩,HB.o⟩
  cases q4:(S.cr == T.cr)
  .have HX:Hid (¬ X):=fun x=>by have:=congrArg Sc.cr (HR.o.1 x);rw[this] at q4;simp at q4
   go_wp2;go_ret;exact⟨⟨false,rfl,fun e=>(by cases e),fun e=>Qz e HX.o⟩,HB.o⟩
  cases q5:(S.ac == T.ac)
  .have HX:Hid (¬ X):=fun x=>by have:=congrArg Sc.ac (HR.o.1 x);rw[this] at q5;simp at q5
   go_wp2;go_ret;exact⟨⟨false,rfl,fun e=>(by cases e),fun e=>Qz e HX.o⟩,HB.o⟩
  have HM:Hid (mkQ S T=true):=by show _=_;unfold mkQ;rw[q0,q1,q2,q3,q4,q5];rfl
  go_wp2_with (first
   | (refine di (by first | rfl | (simp[Region.wanted,yielded];done)) 47 _ rfl w.heap.size 6 rfl _ _ (Hl HN.o.p) Tryz.underlying47 rfl jc ?_)
   | (refine di (by first | rfl | (simp[Region.wanted,yielded];done)) 47 _ rfl (w.heap.size+1) 6 rfl _ _ (Hl HN.o.q) Tryz.underlying47 rfl jc ?_))
  refine (HF.o _ HN.o).mono ?_;rintro o w1 ⟨⟨b,rfl,hb⟩,hb1⟩;have HX:Hid (b=true↔X):=by
   show _↔_;rw[hb,HR.o,<- JP,HM.o];simp[frQ];constructor
   .rintro⟨h1,h2,h3,h4,h5⟩;exact⟨⟨⟨⟨h1,h3⟩,om⟩,h4⟩,h5⟩
   .rintro⟨⟨⟨⟨h1,h3⟩,h2⟩,h4⟩,h5⟩;exact⟨h1,om,h3,h4,h5⟩
  have HB1:Hid (Bl w w1):=HB.o.trans (hb1.mono HB.o.size);clear hb hb1;go_wp2;go_ret;exact⟨⟨b,rfl,HX.o⟩,HB1.o⟩
 refine key.mono ?_;rintro o w' ⟨⟨b,rfl,hb⟩,hb'⟩;exact⟨⟨b,rfl,hb.trans HR.o⟩,hb'⟩
def Jl (w:World) (S:Sc) (a:Option Addr) (n k:Nat) (hn:n=S.l.length) :
  Calls Tp 79 #[aG (scL S a n k).toArray] w fun o w'=>cK o (S=scZ)/\Bl w w':=by
 have HN:Hid (blk (w.alloc (.cells (scL S a n k).toArray 49)) w.heap.size (scL S a n k) 49/\Bl w (w.alloc (.cells (scL S a n k).toArray 49))):=⟨blk.new w _ 49,qw⟩
 obtain⟨v0,hv0⟩ : ∃ v0,v0=w.alloc (.cells (scL S a n k).toArray 49):=⟨_,rfl⟩
 rw[<- hv0] at HN;have HLN:=ah hn;clear hn;obtain⟨X,HR⟩ : ∃ X:Prop,Hid (X↔S=scZ):=⟨_,Iff.rfl⟩
 have key:Calls Tp 79 #[aG (scL S a n k).toArray] w fun o w'=>cK o X/\Bl w w':=by
  go_enter Tryz.func79,Tryz.ntmps79;go_upto_region 1 with fail
  change Code.wp _ _ _ _ (w.alloc (.cells (scL S a n k).toArray 49));rw[<- hv0];clear hv0;have HB:Hid (Bl w v0):=HN.o.2;have x0:=HN.o.1.cell 0 _ rfl;have x1:=HN.o.1.cell 1 _ rfl;have x2:=HN.o.1.cell 2 _ rfl;have x3:=HN.o.1.cell 3 _ rfl;have x4:=HN.o.1.cell 4 _ rfl;have x5:=HN.o.1.cell 5 _ rfl;cases q0:(S.f == 0)
  .have HX:Hid (¬ X):=fun x=>by have:=HR.o.1 x;rw[this] at q0;simp at q0
   go_wp2;go_ret;exact⟨⟨false,rfl,fun e=>(by cases e),fun e=>Qz e HX.o⟩,HB.o⟩
  cases q1:(S.lf == 0)
  .have HX:Hid (¬ X):=fun x=>by have:=HR.o.1 x;rw[this] at q1;simp at q1
   go_wp2;go_ret;exact⟨⟨false,rfl,fun e=>(by cases e),fun e=>Qz e HX.o⟩,HB.o⟩
  cases q2:(S.rn == 0)
  .have HX:Hid (¬ X):=fun x=>by have:=HR.o.1 x;rw[this] at q2;simp at q2
   go_wp2;go_ret;exact⟨⟨false,rfl,fun e=>(by cases e),fun e=>Qz e HX.o⟩,HB.o⟩
  cases q3:(S.lv == 0)
  .have HX:Hid (¬ X):=fun x=>by have:=HR.o.1 x;rw[this] at q3;simp at q3
   go_wp2;go_ret;exact⟨⟨false,rfl,fun e=>(by cases e),fun e=>Qz e HX.o⟩,HB.o⟩
  cases q4:(S.cr == 0)
  .have HX:Hid (¬ X):=fun x=>by have:=HR.o.1 x;rw[this] at q4;simp at q4
   go_wp2;go_ret;exact⟨⟨false,rfl,fun e=>(by cases e),fun e=>Qz e HX.o⟩,HB.o⟩
  cases q5:(S.ac == 0)
  .have HX:Hid (¬ X):=fun x=>by have:=HR.o.1 x;rw[this] at q5;simp at q5
   go_wp2;go_ret;exact⟨⟨false,rfl,fun e=>(by cases e),fun e=>Qz e HX.o⟩,HB.o⟩
  go_wp2_with (refine di (by first | rfl | (simp[Region.wanted,yielded];done)) 47 _ rfl w.heap.size 6 rfl _ _ (Hl HN.o.1) Tryz.underlying47 rfl jc ?_)
  refine (gQ _ S.e S.i S.r S.d a n k).mono ?_;rintro o w1 ⟨⟨b,rfl,hb⟩,hb1⟩;have HX:Hid (b=true↔X):=by
   show _↔_;rw[hb,HR.o];have hl:=HLN.o;simp only[beq_iff_eq] at q0 q1 q2 q3 q4 q5;clear HN HB HR HLN x0 x1 x2 x3 x4 x5;obtain⟨f,lf,rn,lv,cr,ac,e,i,r,d,l⟩:=S;simp only[scZ,Sc.mk.injEq,zFr] at *;constructor
   .rintro⟨h1,h2,h3,h4,h5⟩;exact⟨q0,q1,q2,q3,q4,q5,h1,h2,h3,h4,List.length_eq_zero_iff.1 om⟩
   .rintro⟨-,-,-,-,-,-,h1,h2,h3,h4,h5⟩;exact⟨h1,h2,h3,h4,by rw[hl,h5];rfl⟩
  have HB1:Hid (Bl w w1):=HB.o.trans (hb1.mono HB.o.size);clear hb hb1;go_wp2;go_ret;exact⟨⟨b,rfl,HX.o⟩,HB1.o⟩
 refine key.mono ?_;rintro o w' ⟨⟨b,rfl,hb⟩,hb'⟩;exact⟨⟨b,rfl,hb.trans HR.o⟩,hb'⟩
variable {C:Co} {N cu:Int} {ws:List Nat}
def Gt (E:ByteArray) (k:Nat):lt (E.extract 0 k)=(lt E).take k:=by
 have h:E.extract 0 k=ae ((lt E).take k):=by rw[<- vM,ya]
 rw[h]
 exact ix _ fun x hx=>by
  obtain⟨y,_,rfl⟩:=List.mem_map.1 (qL hx);exact y.toNat_lt
def JK (e:Bool) (i:Nat) (r:Bool) (d:Int) (l:List Nat) (hv:vB e i r d l.length=true) (hs:∀ x ∈ l,x<256) (k:Nat) (h:k<(eV e i r d l.length l).size):goL ((lt (eV e i r d l.length l)).take k):=by
 have hd0:0<=d/\d<=15/\(l.length:Int)=dl r d:=by
  unfold vB at hv;simp only[qx,qQ,beq_iff_eq] at hv;exact⟨hv.1.1.2,hv.1.2,hv.2⟩
 have hf:lG r d.toNat l:=by
  refine⟨om,?_,hs⟩;have:=hd0.2.2;unfold dl at this;cases r
  .simp at this ⊢;omega
  .simp at this ⊢;simpa using this
 have hE:eV e i r d l.length l=ae (fS e i r d.toNat l 49):=by
  unfold eV fS;simp only[hv,if_true];rfl
 have hL:lt (eV e i r d l.length l)=fS e i r d.toNat l 49:=by
  rw[hE]
  exact ix _ fun x hx=>by
   have:=rq e i r d.toNat l 49 (qy rfl) x hx;rcases this with h | h <;> omega
 have hz:k<(fS e i r d.toNat l 49).length:=by rw[<- hL,ba];exact h
 have hc:=zx e i r d.toNat l 49 hf (qy rfl) k (qB hz);rw[hL];have hg:goL (lt (ae ((fS e i r d.toNat l 49).take k))):=by
  refine J5 ?_;rw[hc,zb om];split
  .exact qy rfl
  .exact qr rfl
 rw[ix _ fun x hx=>by
  have:=rq e i r d.toNat l 49 (qy rfl) x (qL hx)
  rcases this with h | h <;> omega] at hg
 exact hg
def Jr {w:World} {s:Sl} (h:aK w C.ho s) (hok:g9 C) (hw:wrP C.ho.bx) {k:Nat} (hk:k<(dq C).size):goL ((lt (dq C)).take k):=by
 have hj:=kC hw;rw[jq C hj] at hk ⊢;exact JK _ _ _ _ _ (kG hok hw hj) (h.small _ hj) k hk
def hJ (N cu:Int) (ws:List Nat):Prop:=N=0/\ws=[]/\cu=0
structure snP (C:Co) (S:Sc) (N cu:Int) (ws:List Nat):Prop where
 n:N=((dq C).size:Int)
 w:ws=wl (lt (dq C))
 c0:0<=cu
 c1:cu<((dq C).size:Int)
 s:S=scO ((lt (dq C)).take cu.toNat)
structure vf (C:Co) (S:Sc) (N cu:Int) (ws:List Nat):Prop where
 c:g9 C
 i:C.p≠1->hJ N cu ws/\S=scZ
 h:C.p=1->C.tx=false->hJ N cu ws/\okS S/\S.f≠1
 s:C.p=1->C.tx=true->snP C S N cu ws
def Jf {S:Sc} (hc:g9 C) (hp:C.p≠1):vf C S N cu ws↔hJ N cu ws/\S=scZ:=⟨fun h=>h.i hp,fun h=>⟨hc,fun _=>h,fun e=>Qz e hp,fun e=>Qz e hp⟩⟩
def Jg {S:Sc} (hc:g9 C) (hp:C.p=1) (ht:C.tx=false):vf C S N cu ws↔hJ N cu ws/\okS S/\S.f≠1:=⟨fun h=>h.h hp ht,fun h=>⟨hc,fun e=>Qz hp e,fun _ _=>h,fun _ e=>by rw[ht] at e;cases e⟩⟩
def Je {S:Sc} (hc:g9 C) (hp:C.p=1) (ht:C.tx=true):vf C S N cu ws↔snP C S N cu ws:=⟨fun h=>h.s hp ht,fun h=>⟨hc,fun e=>Qz hp e,fun _ e=>(by rw[ht] at e;cases e),fun _ _=>h⟩⟩
end Go.Proofs.YtnfmjckkibdcaaaGreatDoor
