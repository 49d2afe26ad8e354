import Derived.Test.YtgfolecanghhhaaGreatK47
import Derived.Test.YtgfolecanghhhaaGreatK45
import Derived.Deep.RegionHeld3
namespace Go.Proofs.YtgfolecanghhhaaGreat
open Go.RowKit
set_option linter.all false
open Go.Value renaming int->I,slice->sL,bool->bO,pointer->pT,agg->aG
open Go.IntKind renaming i64->J
open Go.Ending renaming returned->rT
open Go.Proofs.Tryz renaming prog->Tp
def JX {ok:Prop} {T1 T2 T T':Co} {g h1 h2:ByteArray} (a:rsR ok T g T1 h1) (b:rsR ok T g T2 h2):T2=T1/\h2=h1:=by
 rcases a with⟨k,rfl,rfl⟩|⟨k,rfl,rfl⟩
 .rcases b with⟨_,rfl,rfl⟩|⟨k2,_⟩
  .exact⟨rfl,rfl⟩
  .exact Qy k k2
 .rcases b with⟨k2,_⟩|⟨_,rfl,rfl⟩
  .exact Qy k2 k
  .exact⟨rfl,rfl⟩
def Mk (ok:Prop) (T:Co) (g:ByteArray):∃ T1 h1,rsR ok T g T1 h1:=by
 by_cases h:ok
 .exact⟨_,_,qr ⟨h,rfl,rfl⟩⟩
 .exact⟨_,_,qx ⟨h,rfl,rfl⟩⟩
def aM.small {w:World} {a:Option Addr} {n k:Nat} {bs:List R8} (h:aM w a n k bs):∀ j (h:j<bs.length),∀ x ∈ bs[j].l,x<256:=by
 intro j hj;obtain⟨g,off,_,hc⟩:=h.cells (by intro e;rw[e] at hj;cases hj);obtain⟨ao,m,c,h8⟩:=hc j hj;exact h8.dat.small
def rsT (C:Co) (hd:ByteArray) (vf:Nat) (vd vo:Bool) (r bi:Int):Co:=af C (rsA C hd vf vd vo r bi.toNat)
def rsG (C:Co) (hd:ByteArray) (vf:Nat) (vd vo:Bool) (r bi:Int):ByteArray:=rsH (rsT C hd vf vd vo r bi) hd bi.toNat
def Mj {C:Co} {hd:ByteArray} {vc vf:Nat} {vd vo:Bool} {r bi:Int} {T:Co} {gd:ByteArray} (hR:rsR (GB C hd vc bi) (rsT C hd vf vd vo r bi) (rsG C hd vf vd vo r bi) T gd) (h:C.ho.le 1048576):T.ho.le 1048576:=by
 rcases hR with⟨k,rfl,_⟩|⟨_,rfl,_⟩
 .exact L6 k.1 vf vd vo r h _
 .exact CU
def Lz (w:World) (C:Co) (s:Sl) (hd:ByteArray) (vc vf:Nat) (vd vo:Bool) (r bi:Int) (h:aK w C.ho s) (hs:dz s) (hm:C.ho.le 1048576) (hsz:hd.size<=1048576) (hj:∀ W,Calls Tp 92 #[.string hd] W fun o w'=>o = rT (aG #[I J (vc:Int),I J (vf:Int),bO vd,bO vo])/\Bl W w') (hr:wv C.ho.bx r) (T:Co) (gd:ByteArray) (hR:rsR (GB C hd vc bi) (rsT C hd vf vd vo r bi) (rsG C hd vf vd vo r bi) T gd) :
  Calls Tp 7 #[aG (rfL C s hd).toArray,I J bi] w fun o w'=>∃ sg,o = rT (aG (rfL T sg gd).toArray)/\St w.heap.size w' (fun W=>aK W T.ho sg)/\MKC w.heap.size T sg w'/\Bl w w':=by
 refine (Mq w C s hd vc vf vd vo bi h hs hm hj (rsT C hd vf vd vo r bi) (rsG C hd vf vd vo r bi) (fun hok hb w0 M G nm W R hx hR hn hU=>?_)).mono ?_
 .have e:bi=((bi.toNat:Nat):Int):=om;have:=MD hok vf vd vo r hr hj hsz hx R hR hn hU bi.toNat om;rw[<- e] at this;exact this
 rintro o w' ⟨T1,s',h1,rfl,q1,q2,q3,hb⟩;obtain⟨rfl,rfl⟩:=JX (T':=T) hR q1;refine⟨s',rfl,?_⟩;by_cases hok:GB C hd vc bi
 .obtain⟨B,E,⟨s4,rfl,f,g1,g2⟩,hB,hE⟩:=q2 hok;refine⟨fun W hW=>(f W fun k a b=>hW k om om).1,?_,hb⟩;have q2:whS w.heap.size w'.heap.size w' s4:=(f w' fun _ _ _=>rfl).2.mono hB hE;exact MKQ.core (q2.mkq g1 g2) hb.size
 .obtain rfl:=q3 hok;rcases q1 with⟨k,_⟩|⟨_,rfl,_⟩
  .exact Qy k hok
  .exact⟨fun W _=>CT W,MKQ.core (T:=zCo) (Ay _ _ hb.size) hb.size,hb⟩
def Ls (w:World) (C:Co) (s:Sl) (hd:ByteArray) (vc vf:Nat) (vd vo:Bool) (r bi:Int) (h:aK w C.ho s) (hm:C.ho.le 1048576) (hsz:hd.size<=1048576) (hj:∀ W,Calls Tp 16 #[.string hd] W fun o w'=>o = rT (aG #[I J (vc:Int),I J (vf:Int),bO vd,bO vo])/\Bl W w') (hv:sjV (swZ hd).1 (swZ hd).2.1 (swZ hd).2.2 = aG #[I J (vc:Int),I J (vf:Int),bO vd,bO vo]) (hr:wv C.ho.bx r) (T:Co) (gd:ByteArray) (hR:rsR (GB C hd vc bi) (rsT C hd vf vd vo r bi) (rsG C hd vf vd vo r bi) T gd) :
  Calls Tp 5 #[aG (rfL C s hd).toArray,I J bi] w fun o w'=>∃ s2,o = rT (aG (rfL T s2 gd).toArray)/\aK w' T.ho s2/\Bl w w':=by
 refine (Mi w C s hd vc vf vd vo bi h hm hj (rsT C hd vf vd vo r bi) (rsG C hd vf vd vo r bi) (fun hok=>L6 hok.1 vf vd vo r hm _) (fun hok κ s1 W img hg hi=>?_)).mono ?_
 .have hb:=hok.2;have e:bi=((bi.toNat:Nat):Int):=om;have:=Ke hok.1 vf vd vo r hr hsz hm bi.toNat om (fun hp ht h12=>LD hok.1 hv h.bx.small _ om hp ht h12) κ s1 W img hg hi;rw[<- e] at this;exact this
 rintro o w' ⟨T1,s',h1,rfl,q1,q2,hb⟩;obtain⟨rfl,rfl⟩:=JX (T':=T) hR q1;exact⟨s',rfl,q2,hb⟩
open Go renaming World->Wd
section
variable {w W W' w4 w7:Wd} {C T:Co} {s sw sg:Sl} {bw bx B6 bg B:Nat}
def pt (C:Co) (s:Sl) (hd:ByteArray):(Tp.info? 33).map (·.size)=some (rfL C s hd).length:=kr
def GC (C:Co) (s:Sl) (hd:ByteArray):(Tp.info? 45).map (·.size)=some (rfL C s hd).length:=kr
def IE (C:Co) (s:Sl) (hd:ByteArray):(Tp.info? 45).map (·.size)=some (rfL C s hd).toArray.size:=kr
structure lrS (w:Wd) (C:Co) (s:Sl) (hd gd:ByteArray) (T:Co) (bw:Nat) (sw:Sl) (W:Wd):Prop where
 p:blk W w.heap.size (rfL C s hd) 33
 q:blk W bw (rfL T sw gd) 45
 t:aK W T.ho sw
 h:aK W C.ho s
 b:Bl w W
def lrS.below {hd gd:ByteArray} (h:lrS w C s hd gd T bw sw W) (hb:Bl W W'):lrS w C s hd gd T bw sw W':=⟨h.p.below hb,h.q.below hb,h.t.below hb,h.h.below hb,h.b.trans (hb.mono h.b.size)⟩
structure lrX (w:Wd) (C:Co) (s:Sl) (hd gd:ByteArray) (T:Co) (bw:Nat) (sw:Sl) (w4:Wd) (T5 bx:Nat) (sx:Wh) (W:Wd):Prop where
 l:lrS w C s hd gd T bw sw W
 x:blk W bx (rfL C sx.sl hd) 45
 xh:aK W C.ho sx.sl
 xw:whS w4.heap.size T5 W sx
 z:bw<w4.heap.size/\w.heap.size<w4.heap.size/\w4.heap.size<=T5/\T5<=bx
 b4:Bl w4 W
def lrX.below {hd gd:ByteArray} {T5:Nat} {sx:Wh} (h:lrX w C s hd gd T bw sw w4 T5 bx sx W) (hb:Bl W W'):lrX w C s hd gd T bw sw w4 T5 bx sx W':=⟨h.l.below hb,h.x.below hb,h.xh.below hb,h.xw.same (fun x _ hx=>hb.block x (by have:=h.x.lt;have:=h.z;omega)),h.z,h.b4.trans (hb.mono h.b4.size)⟩
structure lrG (w:Wd) (C:Co) (s:Sl) (hd gd:ByteArray) (T:Co) (bw:Nat) (sw:Sl) (w4:Wd) (bx B6:Nat) (w7:Wd) (bg:Nat) (sg:Sl) (W:Wd):Prop where
 l:lrS w C s hd gd T bw sw W
 g:blk W bg (rfL T sg gd) 45
 k:∀ x,B6<=x->x<w7.heap.size->W.heap[x]?=w7.heap[x]?
 z:bx<B6/\B6<=w7.heap.size/\w7.heap.size<=bg
 y:bw<w4.heap.size/\w.heap.size<w4.heap.size/\w4.heap.size<=bx
 b4:Bl w4 W
def lrG.below {hd gd:ByteArray} (h:lrG w C s hd gd T bw sw w4 bx B6 w7 bg sg W) (hb:Bl W W'):lrG w C s hd gd T bw sw w4 bx B6 w7 bg sg W':=⟨h.l.below hb,h.g.below hb,fun x h1 h2=>(hb.block x (by have:=h.g.lt;have:=h.z;omega)).trans (h.k x h1 h2),h.z,h.y,h.b4.trans (hb.mono h.b4.size)⟩
def lrG.xmark {hd gd:ByteArray} (h:lrG w C s hd gd T bw sw w4 bx B6 w7 bg sg W) (h4:aK w4 T.ho sw/\aK w4 C.ho s) (hb:Below w4.heap.size W W') (ho:∀ x,bx<=x->x<W.heap.size->W'.heap[x]?=W.heap[x]?):lrG w C s hd gd T bw sw w4 bx B6 w7 bg sg W':=by
 have hb4:=h.b4.trans hb;refine⟨⟨h.l.p.kept (hb.block _ h.y.2.1),h.l.q.kept (hb.block _ h.y.1),h4.1.below hb4,h4.2.below hb4,h.l.b.trans (hb.mono (by have:=h.y;omega))⟩,h.g.kept (ho _ (by have:=h.z;omega) h.g.lt),fun x h1 h2=>(ho x (by have:=h.z;omega) (by have:=h.g.lt;have:=h.z;omega)).trans (h.k x h1 h2),h.z,h.y,hb4⟩
def lrG.gmark {hd gd:ByteArray} (h:lrG w C s hd gd T bw sw w4 bx B6 w7 bg sg W) (h4:aK w4 T.ho sw/\aK w4 C.ho s) (hb:Below B6 W W'):lrS w C s hd gd T bw sw W':=by
 have hz:=h.z;have hy:=h.y;have hb4:=h.b4.trans (hb.mono om);exact⟨h.l.p.kept (hb.block _ om),h.l.q.kept (hb.block _ om),h4.1.below hb4,h4.2.below hb4,h.l.b.trans (hb.mono om)⟩
def GO (l:List Value) (hl:l.length=22):blk (World.setCells (w.alloc (.cells Z22.toArray 45)) w.heap.size 0 l) w.heap.size l 45/\Bl w (World.setCells (w.alloc (.cells Z22.toArray 45)) w.heap.size 0 l):=by
 refine⟨?_,sW (nR _) 0 l Zw⟩;have:=blk.put [] Z22 [] l (w:=w.alloc (.cells Z22.toArray 45)) (b:=w.heap.size) (T:=45) (by simpa using blk.new w Z22 45) (by rw[hl];rfl);simpa using this
def CV {T:Nat} {sx:Wh} {hd:ByteArray} (h:whS B T W sx) (hd':whD sx) (hT:T<=W.heap.size) (hB:B<=T):Calls Tp 9 #[aG (rfL C sx.sl hd).toArray,I J 1] W fun o w1=>∃ k:Nat,o = rT (I J (k:Int))/\(∀ x,T<=x->x<W.heap.size->w1.heap[x]?=W.heap[x]?)/\Below B W w1:=by
 refine DQ (Q:=fun k w1=>(∀ x,T<=x->x<W.heap.size->w1.heap[x]?=W.heap[x]?)/\Below B W w1) (fun X hX=>?_);refine (CW (h.same fun x h1 h2=>hX.block x om) hd' (by have:=hX.size;omega) hB).mono ?_;rintro o w1 ⟨k,rfl,h1,h2⟩;exact⟨k,rfl,fun x h4 h5=>(h1 x h4 (by have:=hX.size;omega)).trans (hX.block x h5),(hX.mono om).trans h2⟩
def MKR (B:Nat) (T:Co) (sg:Sl) (gd:ByteArray) (w:Wd):Prop:=∀ W,(∀ x,B<=x->x<w.heap.size->W.heap[x]?=w.heap[x]?)->w.heap.size<=W.heap.size->Calls Tp 9 #[aG (rfL T sg gd).toArray,I J 1] W fun o w1=>∃ k:Nat,o = rT (I J (k:Int))/\Below B W w1/\(∀ x,w.heap.size<=x->x<W.heap.size->w1.heap[x]?=W.heap[x]?)/\∀ W2,Bl w1 W2->Calls Tp 10 #[aG (rfL T sg gd).toArray,I J 1] W2 fun o w2=>o = rT (I J (k:Int))/\Bl W2 w2
def MKC.ref {gd:ByteArray} (h:MKC B T sg w) (hB:B<=w.heap.size):MKR B T sg gd w:=by
 intro W hW hz;refine DQ (Q:=fun k w1=>Below B W w1/\(∀ x,w.heap.size<=x->x<W.heap.size->w1.heap[x]?=W.heap[x]?)/\∀ W2,Bl w1 W2->Calls Tp 10 #[aG (rfL T sg gd).toArray,I J 1] W2 fun o w2=>o = rT (I J (k:Int))/\Bl W2 w2) (fun X hX=>?_);refine (h X (fun x h1 h2=>(hX.block x om).trans (hW x h1 h2)) (by have:=hX.size;omega)).mono ?_;rintro o w1 ⟨k,rfl,h1,h2,h3⟩;refine⟨k,rfl,(hX.mono om).trans h1,fun x h4 h5=>(h2 x h4 (by have:=hX.size;omega)).trans (hX.block x h5),fun W2 hW2=>?_⟩;exact Mr k (fun X2 hX2=>h3 X2 (hW2.trans (hX2.mono hW2.size)))
end
open Go.Proofs.Tryz
set_option maxRecDepth 40000
set_option maxHeartbeats 16000000
def JE (C:Co) (s:Sl) (hd:ByteArray) (bi:Int) (w:World) (h:aK w C.ho s) (hn:C.ho.le 9223372036854775807) (hsz:hd.size<=maxLen) :
  Calls Tp 3 #[aG (rfL C s hd).toArray,I J bi] w fun o w'=>o = rT (bO true)/\Bl w w':=by
 obtain⟨r,hr⟩:=Lj C.ho.bx;obtain⟨vc,vf,vd,vo,hv⟩:=Kf (swZ hd).1 (swZ hd).2.1 (swZ hd).2.2;have hj:∀ W,Calls Tp 92 #[.string hd] W fun o w'=>o = rT (aG #[I J (vc:Int),I J (vf:Int),bO vd,bO vo])/\Bl W w':=fun W=>(wO hd W).mono (by rintro o w' ⟨rfl,hb⟩;exact⟨by rw[tD,hv],hb⟩);have hk:∀ W,Calls Tp 16 #[.string hd] W fun o w'=>o = rT (aG #[I J (vc:Int),I J (vf:Int),bO vd,bO vo])/\Bl W w':=fun W=>(lU hd W hsz).mono (by rintro o w' ⟨rfl,hb⟩;exact⟨by rw[hv],hb⟩);obtain⟨T,gd,hR⟩:=Mk (GB C hd vc bi) (rsT C hd vf vd vo r bi) (rsG C hd vf vd vo r bi);have HS:Hid (∀ X,Bl w X->Calls Tp 4 #[aG (rfL C s hd).toArray,I J 1048576] X fun o w'=>∃ z:Int,o = rT (I J z)/\Bl X w'/\(z = -1\/∃ m':Nat,z=(m':Int)/\C.ho.le 1048576/\hd.size<=1048576)):=fun X hX=>vG X C s hd (h.below hX) hn hsz;have HT:Hid ((C.ho.le 1048576/\hd.size<=1048576)->∀ X,aK X C.ho s->Calls Tp 6 #[aG (rfL C s hd).toArray] X fun o w'=>∃ s':Wh,o = rT (aG (rfL C s'.sl hd).toArray)/\St X.heap.size w' (fun W=>aK W C.ho s'.sl)/\whS X.heap.size w'.heap.size w' s'/\whD s'/\dz s'.sl/\Bl X w'):=fun hm X hX=>(vA X C s hd (fun Y hY=>Dd Y C s (hX.below hY) hm.1)).mono (by rintro o w' ⟨s',B,rfl,q0,q1,q2,q3,q4,q5⟩;exact⟨s',rfl,fun W hW=>q1 W (fun k a b=>hW k om b),q2.mono q0 (nR _),q3,q4,q5⟩);have HE:Hid ((C.ho.le 1048576/\hd.size<=1048576)->∀ X s',aK X C.ho s'->Calls Tp 5 #[aG (rfL C s' hd).toArray,I J bi] X fun o w'=>∃ s2,o = rT (aG (rfL T s2 gd).toArray)/\aK w' T.ho s2/\Bl X w'):=fun hm X s' h'=>Ls X C s' hd vc vf vd vo r bi h' hm.1 hm.2 hk hv hr T gd hR;have HI:Hid ((C.ho.le 1048576/\hd.size<=1048576)->∀ X s',aK X C.ho s'->dz s'->Calls Tp 7 #[aG (rfL C s' hd).toArray,I J bi] X fun o w'=>∃ sg,o = rT (aG (rfL T sg gd).toArray)/\St X.heap.size w' (fun W=>aK W T.ho sg)/\MKR X.heap.size T sg gd w'/\Bl X w'):=fun hm X s' h' hs'=>(Lz X C s' hd vc vf vd vo r bi h' hs' hm.1 hm.2 hj hr T gd hR).mono (by rintro o w' ⟨sg,rfl,q1,q2,q3⟩;exact⟨sg,rfl,q1,q2.ref q3.size,q3⟩);have HQ:Hid ((C.ho.le 1048576/\hd.size<=1048576)->∀ X s1 s2,aK X T.ho s1->aK X T.ho s2->Calls Tp 8 #[aG (rfL T s1 gd).toArray,aG (rfL T s2 gd).toArray] X fun o w'=>o = rT (bO true)/\Bl X w'):=fun hm X s1 s2 h1 h2=>tP X _ s1 s2 gd h1 h2 (Mj hR hm.1);have HQH:Hid ((C.ho.le 1048576/\hd.size<=1048576)->∀ X s1 s2,aK X C.ho s1->aK X C.ho s2->Calls Tp 8 #[aG (rfL C s1 hd).toArray,aG (rfL C s2 hd).toArray] X fun o w'=>o = rT (bO true)/\Bl X w'):=fun hm X s1 s2 h1 h2=>tP X _ s1 s2 hd h1 h2 hm.1;have P0:blk (w.alloc (.cells (rfL C s hd).toArray 33)) w.heap.size (rfL C s hd) 33:=blk.new w _ 33;have HA:Hid (Bl w (w.alloc (.cells (rfL C s hd).toArray 33))):=Zw;have HH:Hid (∀ X,Bl w X->aK X C.ho s):=fun X hX=>h.below hX;have HP0:Hid (blk (w.alloc (.cells (rfL C s hd).toArray 33)) w.heap.size (rfL C s hd) 33):=P0;clear h hn P0;clear hR hj hk hr hv hsz;go_enter func3,ntmps3;go_wp2_with (refine ZG 33 HP0.o.load underlying33 (pt C s hd) ?_);refine (HS.o _ HA.o).mono ?_;rintro o w1 ⟨z,rfl,b1,h1⟩;have HP1:Hid (blk w1 w.heap.size (rfL C s hd) 33):=HP0.o.below b1;have HB1:Hid (Bl w w1):=HA.o.trans (b1.mono pQ);clear b1 HP0 HA HS;rcases h1 with rfl|⟨m',rfl,hle⟩
 .go_wp2_with fail;go_ret;exact⟨rfl,HB1.o⟩
 have HLE:Hid (C.ho.le 1048576/\hd.size<=1048576):=hle;clear hle;go_wp2_with (refine ZG 33 HP1.o.load underlying33 (pt C s hd) ?_);refine (HT.o HLE.o _ (HH.o _ HB1.o)).mono ?_;rintro o w2 ⟨s2,rfl,S2,_,_,_,b2⟩;have HO2:Hid (aK w2 C.ho s2.sl):=S2.now;have HP2:Hid (blk w2 w.heap.size (rfL C s hd) 33):=HP1.o.below b2;have HB2:Hid (Bl w w2):=HB1.o.trans (b2.mono HB1.o.size);clear S2 b2 HP1 HB1;go_wp2_with fail;refine (HE.o HLE.o w2 s2.sl HO2.o).mono ?_;rintro o w3 ⟨sw,rfl,hT3,b3⟩;have HP3:Hid (blk w3 w.heap.size (rfL C s hd) 33):=HP2.o.below b3;have HB3:Hid (Bl w w3):=HB2.o.trans (b3.mono HB2.o.size);have HT3:Hid (aK w3 T.ho sw):=hT3;clear hT3 b3 HP2 HB2 HO2 HE;have HNW:Hid (blk (World.setCells (w3.alloc (.cells Z22.toArray 45)) w3.heap.size 0 (rfL T sw gd)) w3.heap.size (rfL T sw gd) 45/\Bl w3 (World.setCells (w3.alloc (.cells Z22.toArray 45)) w3.heap.size 0 (rfL T sw gd))):=GO _ (uI _ _ _);have HN3:Hid (blk (w3.alloc (.cells Z22.toArray 45)) w3.heap.size Z22 45):=blk.new w3 _ 45;go_wp2_with (first | (refine Zs 45 (rfL T sw gd).toArray (HN3.o.there 0 _ (by rw[qR,uI];decide)) (IE T sw gd) (uH T sw gd) ?_;generalize hW4:World.setCells (w3.alloc _) w3.heap.size 0 _=w4;have HW4:Hid (lrS w C s hd gd T w3.heap.size sw w4):=(by rw[<- hW4];exact⟨HP3.o.below HNW.o.2,HNW.o.1,HT3.o.below HNW.o.2,HH.o _ (HB3.o.trans (HNW.o.2.mono HB3.o.size)),HB3.o.trans (HNW.o.2.mono HB3.o.size)⟩);clear hW4 HNW HN3) | (refine ZG 33 HW4.o.p.load underlying33 (pt C s hd) ?_));clear HP3 HB3 HT3;generalize w3.heap.size=bw at *;refine (HT.o HLE.o _ HW4.o.h).mono ?_;rintro o w5 ⟨s5,rfl,S5,S5w,S5d,S5s,b5⟩;have HX5:Hid (lrS w C s hd gd T bw sw w5/\aK w5 C.ho s5.sl/\whS w4.heap.size w5.heap.size w5 s5):=⟨HW4.o.below b5,S5.now,S5w⟩
 have HD5:Hid (whD s5/\dz s5.sl):=⟨S5d,S5s⟩
 have HB45:Hid (Bl w4 w5):=b5;have HH4:Hid (aK w4 T.ho sw/\aK w4 C.ho s):=⟨HW4.o.t,HW4.o.h⟩
 have HZ5:Hid (bw<w4.heap.size/\w.heap.size<w4.heap.size/\w4.heap.size<=w5.heap.size):=⟨HW4.o.q.lt,HW4.o.p.lt,b5.size⟩
 clear S5 S5w S5d S5s b5;have HN5a:Hid (blk (World.setCells (w5.alloc (.cells Z22.toArray 45)) w5.heap.size 0 (rfL C s5.sl hd)) w5.heap.size (rfL C s5.sl hd) 45/\Bl w5 (World.setCells (w5.alloc (.cells Z22.toArray 45)) w5.heap.size 0 (rfL C s5.sl hd))):=GO _ (uI _ _ _);have HN5b:Hid (blk (w5.alloc (.cells Z22.toArray 45)) w5.heap.size Z22 45):=blk.new w5 _ 45;go_wp2_with (first | (refine Zs 45 (rfL C s5.sl hd).toArray (HN5b.o.there 0 _ (by rw[qR,uI];decide)) (IE C s5.sl hd) (uH C s5.sl hd) ?_;generalize hW6:World.setCells (w5.alloc _) w5.heap.size 0 _=w6;have HX6:Hid (lrX w C s hd gd T bw sw w4 w5.heap.size w5.heap.size s5 w6):=(by rw[<- hW6];exact⟨HX5.o.1.below HN5a.o.2,HN5a.o.1,HX5.o.2.1.below HN5a.o.2,HX5.o.2.2.same (fun x _ hx=>HN5a.o.2.block x hx),⟨HZ5.o.1,HZ5.o.2.1,HZ5.o.2.2,nR _⟩,HB45.o.trans (HN5a.o.2.mono HB45.o.size)⟩);clear hW6 HN5a HN5b) | (refine ZG 45 HX6.o.x.load underlying45 (GC C s5.sl hd) ?_));clear HX5 HZ5 HW4 HB45;generalize hT5:w5.heap.size=bx at *;clear hT5;refine (HI.o HLE.o w6 s5.sl HX6.o.xh HD5.o.2).mono ?_;rintro o w7 ⟨sg,rfl,S7,M7,b7⟩;have HX7:Hid (lrX w C s hd gd T bw sw w4 bx bx s5 w7):=HX6.o.below b7;have HG7:Hid (St w6.heap.size w7 (fun W=>aK W T.ho sg)/\MKR w6.heap.size T sg gd w7/\w6.heap.size<=w7.heap.size/\bx<w6.heap.size):=⟨S7,M7,b7.size,HX6.o.x.lt⟩
 clear S7 M7 b7 HX6;have HN7a:Hid (blk (World.setCells (w7.alloc (.cells Z22.toArray 45)) w7.heap.size 0 (rfL T sg gd)) w7.heap.size (rfL T sg gd) 45/\Bl w7 (World.setCells (w7.alloc (.cells Z22.toArray 45)) w7.heap.size 0 (rfL T sg gd))):=GO _ (uI _ _ _);have HN7b:Hid (blk (w7.alloc (.cells Z22.toArray 45)) w7.heap.size Z22 45):=blk.new w7 _ 45
 go_wp2_with (first
  | (refine Zs 45 (rfL T sg gd).toArray (HN7b.o.there 0 _ (by rw[qR,uI];decide)) (IE T sg gd) (uH T sg gd) ?_;generalize hW8:World.setCells (w7.alloc _) w7.heap.size 0 _=w8;have HX8:Hid (lrX w C s hd gd T bw sw w4 bx bx s5 w8/\blk w8 w7.heap.size (rfL T sg gd) 45/\Bl w7 w8):=(by rw[<- hW8];exact⟨HX7.o.below HN7a.o.2,HN7a.o.1,HN7a.o.2⟩);clear hW8 HN7a HN7b)
  | (refine ZG 45 HX8.o.2.1.load underlying45 (GC T sg gd) ?_)
  | (refine ZG 45 HX8.o.1.l.q.load underlying45 (GC T sw gd) ?_))
 have HG8:Hid (lrG w C s hd gd T bw sw w4 bx w6.heap.size w7 w7.heap.size sg w8):=⟨HX8.o.1.l,HX8.o.2.1,fun x h1 h2=>HX8.o.2.2.block x h2,⟨HG7.o.2.2.2,HG7.o.2.2.1,nR _⟩,⟨HX8.o.1.z.1,HX8.o.1.z.2.1,by have:=HX8.o.1.z;omega⟩,HX8.o.1.b4⟩
 have HX9:Hid (lrX w C s hd gd T bw sw w4 bx bx s5 w8):=HX8.o.1;have HSM:Hid (St w6.heap.size w7 (fun W=>aK W T.ho sg)/\MKR w6.heap.size T sg gd w7):=⟨HG7.o.1,HG7.o.2.1⟩
 clear HX8 HG7 HX7;generalize w6.heap.size=B6 at *;refine (HQ.o HLE.o w8 sg sw (HSM.o.1 w8 HG8.o.k) HG8.o.l.t).mono ?_;rintro o w9 ⟨rfl,b9⟩;have HX10:Hid (lrX w C s hd gd T bw sw w4 bx bx s5 w9/\lrG w C s hd gd T bw sw w4 bx B6 w7 w7.heap.size sg w9):=⟨HX9.o.below b9,HG8.o.below b9⟩
 clear b9 HX9 HG8;generalize hbg:w7.heap.size=bg at *;have HBG:Hid (w7.heap.size=bg):=hbg;clear hbg;go_wp2_with fail;refine QJ (S:=fun W=>lrX w C s hd gd T bw sw w4 bx bx s5 W/\lrG w C s hd gd T bw sw w4 bx B6 w7 bg sg W) kr ?_;have hS:lrX w C s hd gd T bw sw w4 bx bx s5 w9.drew/\lrG w C s hd gd T bw sw w4 bx B6 w7 bg sg w9.drew:=⟨HX10.o.1.below (bW _ _).drew,HX10.o.2.below (bW _ _).drew⟩
 clear HX10;change wpAnyH Tp _ _ _ _ _ _ _ w9.drew;generalize w9.drew=w10 at *;refine wU 0 (aG (rfL C s5.sl hd).toArray) rfl (QL (by rfl) 45 _ rfl bx 0 rfl (rfL C s5.sl hd) _ (fun W h=>h.1.x.load) underlying45 rfl (GC C s5.sl hd)) hS ?_;simp only[Act.put,aA,aB,aC,aD,aE];refine wU 1 (aG (rfL C s hd).toArray) rfl (QL (by rfl) 33 _ rfl w.heap.size 0 rfl (rfL C s hd) _ (fun W h=>h.1.l.p.load) underlying33 rfl (pt C s hd)) hS ?_;simp only[aZ];refine QF (rs:=[2]) kr pQ ?_;refine Q8 rfl (fun K2 hK2=>?_) Q9;go_simp;refine (HT.o HLE.o _ hS.1.l.h).mono ?_;rintro o w11 ⟨s11,rfl,S11,_,_,_,b11⟩;have HO11:Hid (aK w11 C.ho s11.sl):=S11.now;have hS11:lrX w C s hd gd T bw sw w4 bx bx s5 w11/\lrG w C s hd gd T bw sw w4 bx B6 w7 bg sg w11:=⟨hS.1.below b11,hS.2.below b11⟩
 clear S11 b11;go_wp2_with fail;refine hK2.out _ _ hS11 (fun hS2=>?_);clear hS hK2 K2 hS11;have hS:=hS2;clear hS2;refine QF (rs:=[3]) kr pQ ?_;refine Q8 rfl (fun K2 hK2=>?_) Q9;go_simp;refine (HQH.o HLE.o _ s5.sl s11.sl hS.1.xh HO11.o).mono ?_;rintro o w12 ⟨rfl,b12⟩;have hS12:lrX w C s hd gd T bw sw w4 bx bx s5 w12/\lrG w C s hd gd T bw sw w4 bx B6 w7 bg sg w12:=⟨hS.1.below b12,hS.2.below b12⟩
 clear b12 HO11;go_wp2_with fail;refine hK2.out _ _ hS12 (fun hS2=>?_);clear hS hK2 K2 hS12;have hS:=hS2;clear hS2;refine wV 4 (bO false) ?_ hS ?_
 .intro W hSw;clear hS;go_simp
 simp only[aZ];refine QH kr ?_ _;have HX12:Hid (lrX w C s hd gd T bw sw w4 bx bx s5 w12/\lrG w C s hd gd T bw sw w4 bx B6 w7 bg sg w12):=hS;clear hS;go_wp2_with (refine ZG 45 HX12.o.1.x.load underlying45 (GC C s5.sl hd) ?_);have HMX:Hid (Calls Tp 9 #[aG (rfL C s5.sl hd).toArray,I J 1] w12 fun o w1=>∃ k:Nat,o = rT (I J (k:Int))/\(∀ x,bx<=x->x<w12.heap.size->w1.heap[x]?=w12.heap[x]?)/\Below w4.heap.size w12 w1):=CV HX12.o.1.xw HD5.o.1 (qA HX12.o.1.x.lt) HX12.o.1.z.2.2.1;refine (Calls.mono HMX.o) ?_;rintro o w13 ⟨k,rfl,q1,q2⟩;have HG13:Hid (lrG w C s hd gd T bw sw w4 bx B6 w7 bg sg w13):=HX12.o.2.xmark HH4.o q2 q1;clear q1 q2 HX12 HMX;have hk0:decide ((k:Int)<0)=false:=pQ
 go_wp2_with (first
  | (refine di (by first | rfl | (simp[Region.wanted,yielded];done) | (simp[Region.wanted,yielded];omega)) 45 _ rfl bg 0 rfl (rfL T sg gd) _ HG13.o.g.load underlying45 rfl (GC T sg gd) ?_)
  | (refine di (by first | rfl | (simp[Region.wanted,yielded];done) | (simp[Region.wanted,yielded];omega)) 45 _ rfl bw 0 rfl (rfL T sw gd) _ HG13.o.l.q.load underlying45 rfl (GC T sw gd) ?_))
 refine (HQ.o HLE.o w13 sg sw (HSM.o.1 w13 HG13.o.k) HG13.o.l.t).mono ?_;rintro o w14 ⟨rfl,b14⟩;have HG14:Hid (lrG w C s hd gd T bw sw w4 bx B6 w7 bg sg w14):=HG13.o.below b14;clear b14 HG13 hk0;go_wp2_with (refine ZG 45 HG14.o.g.load underlying45 (GC T sg gd) ?_);have hzz:w7.heap.size<=w14.heap.size:=by have:=HG14.o.g.lt;have:=HG14.o.z;omega
 refine (HSM.o.2 w14 HG14.o.k hzz).mono ?_;rintro o w15 ⟨m,rfl,b15,o15,c15⟩;have HL15:Hid (lrS w C s hd gd T bw sw w15):=HG14.o.gmark HH4.o b15;have HV15:Hid (blk w15 bg (rfL T sg gd) 45):=HG14.o.g.kept (o15 _ HG14.o.z.2.2 HG14.o.g.lt);have HC15:Hid (Calls Tp 10 #[aG (rfL T sg gd).toArray,I J 1] w15 fun o w2=>o = rT (I J (m:Int))/\Bl w15 w2):=c15 w15 (bW _ _);clear b15 o15 c15 HG14 HSM hzz HH4;go_wp2_with (refine ZG 45 HV15.o.load underlying45 (GC T sg gd) ?_);refine (Calls.mono HC15.o) ?_;rintro o w16 ⟨rfl,b16⟩;have HL16:Hid (lrS w C s hd gd T bw sw w16):=HL15.o.below b16;clear b16 HL15 HV15 HC15;have hm0:¬ (m:Int)<0:=om;go_wp2_with (refine ZG 33 HL16.o.p.load underlying33 (pt C s hd) ?_);refine (HT.o HLE.o _ HL16.o.h).mono ?_;rintro o w17 ⟨s17,rfl,S17,_,_,S17s,b17⟩;have HL17:Hid (lrS w C s hd gd T bw sw w17/\aK w17 C.ho s17.sl/\dz s17.sl):=⟨HL16.o.below b17,S17.now,S17s⟩
 clear S17 S17s b17 HL16;go_wp2_with fail;refine (HI.o HLE.o w17 s17.sl HL17.o.2.1 HL17.o.2.2).mono ?_;rintro o w18 ⟨sh,rfl,S18,_,b18⟩;have HL18:Hid (lrS w C s hd gd T bw sw w18/\aK w18 T.ho sh):=⟨HL17.o.1.below b18,S18.now⟩
 clear S18 b18 HL17;have HN18a:Hid (blk (World.setCells (w18.alloc (.cells Z22.toArray 45)) w18.heap.size 0 (rfL T sh gd)) w18.heap.size (rfL T sh gd) 45/\Bl w18 (World.setCells (w18.alloc (.cells Z22.toArray 45)) w18.heap.size 0 (rfL T sh gd))):=GO _ (uI _ _ _);have HN18b:Hid (blk (w18.alloc (.cells Z22.toArray 45)) w18.heap.size Z22 45):=blk.new w18 _ 45
 go_wp2_with (first
  | (refine Zs 45 (rfL T sh gd).toArray (HN18b.o.there 0 _ (by rw[qR,uI];decide)) (IE T sh gd) (uH T sh gd) ?_;generalize hW19:World.setCells (w18.alloc _) w18.heap.size 0 _=w19;have HL19:Hid (lrS w C s hd gd T bw sw w19/\aK w19 T.ho sh/\blk w19 w18.heap.size (rfL T sh gd) 45):=(by rw[<- hW19];exact⟨HL18.o.1.below HN18a.o.2,HL18.o.2.below HN18a.o.2,HN18a.o.1⟩);clear hW19 HN18a HN18b)
  | (refine ZG 45 HL19.o.1.q.load underlying45 (GC T sw gd) ?_)
  | (refine ZG 45 HL19.o.2.2.load underlying45 (GC T sh gd) ?_))
 refine (HQ.o HLE.o w19 sh sw HL19.o.2.1 HL19.o.1.t).mono ?_;rintro o w20 ⟨rfl,b20⟩;have HL20:Hid (Bl w w20):=(HL19.o.1.below b20).b;clear b20 HL19 HL18;go_wp2_with fail;go_ret;exact⟨rfl,HL20.o⟩
end Go.Proofs.YtgfolecanghhhaaGreat
