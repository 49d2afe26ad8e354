import Derived.Deep.CutBlock
import Derived.Test.YtbbffcolnddcdaaGreatDoorK40
namespace Go.Proofs.YtbbffcolnddcdaaGreatDoor
open Go.Proofs.Tryz
open Option renaming none->nn,some->sQ
set_option maxRecDepth 20000
open Go.RowKit
set_option linter.all false
set_option maxHeartbeats 16000000
open Go.Value renaming int->I,slice->sL,bool->bO,pointer->pT,agg->aG
open Go.IntKind renaming i64->J,u32->Zk
open Go.Ending renaming returned->rT
open Go.Proofs.Tryz renaming prog->Tp
section
variable{w0 w W:World}{b d f i n cap g:Nat}{o o2:List Nat}{st e r:Bool}{rr:Nat × Nat}{D:List (Nat × List Nat)}{v:Value}{a:Option Addr}{R:List Value}
def Bw{l:List Nat}{h:Nat}(hi:i<4294967296)(hd:d<=15)(hs:h<32768)(k:l.length<=8)(j:∀x∈l,x<256):jc f e i r d l h<18446744073709551616:=by
 have p:dw l<18446744073709551616:=nL (tb l j) (nT (qq (by decide) k) (by decide));have s:i / 2 ^ 18<=i:=Nat.div_le_self _ _;have c:∀b:Bool,b.toNat<2:=fun b=>by cases b<;>decide
 have:=c (r||e);have:=c e;have:=c r;unfold jc;repeat' split
 all_goals omega
def yZ:bQ f e r d<=64:=by
 unfold bQ dlN;repeat' split
 all_goals omega
def Aa{t:Nat}(h:f<t)(c:t=10\/t=11\/t=15)(h1:11<=f\/f<=10):f<bK f e r d/\bK f e r d<=t:=by
 unfold bK;repeat' split
 all_goals omega
structure fI(w0 w:World)(b:Nat)(o:List Nat)(st:Bool)(rr:Nat × Nat)(X:Obj)(D:List (Nat × List Nat))(v:Value)(W:World):Prop where
 s:bwS w0 b (aH st o (bM D)) st (gh st (aH st o (bM D)) rr) W
 ow:bF W (w.heap.size+1) v (bp st o D)
 x:W.heap[w.heap.size]?=sQ X
 k:Lib.OthersKept 108 (sQ b) w W
 bel:Below b w W
 z:b<w.heap.size
def fI.below{X:Obj}{W':World}(h:fI w0 w b o st rr X D v W)(c:Bl W W'):fI w0 w b o st rr X D v W':=by
 have u:w.heap.size<W.heap.size:=by have:=h.x;rw[qL]at this;exact this.1
 refine⟨h.s.below c,h.ow.below c,(c.block _ u).trans h.x,?_,h.bel.trans (c.mono (by have:=h.z;omega)),h.z⟩;intro k y h1 l p;have j:=h.k k y h1 l p;have t:k<W.heap.size:=by rw[qL]at j;exact j.1
 exact(c.block k t).trans j
def fI.size{X:Obj}(h:fI w0 w b o st rr X D v W):w.heap.size<W.heap.size:=by have:=h.x;rw[qL]at this;exact this.1
def AK(st:Bool)(l:List Nat):∀o,o.length<=(aH st o l).length:=by
 induction l with
 |nil=>intro o;exact nR _
 |cons a l ih=>
  intro o;refine nT ?_ (ih (jK st o a));cases st
  .simp[jK]
  .show o.length<=(M.lD o a).length;unfold M.lD;split<;>simp
structure gI(w0 w:World)(b:Nat)(o:List Nat)(st:Bool)(rr:Nat × Nat)(X:Obj)(o2:List Nat)(D:List (Nat × List Nat))(v:Value)(g:Nat)(R:List Value)(W:World):Prop where
 s:bwS w0 b o2 st (gh st o2 rr) W
 ow:bF W (w.heap.size+1) v (bp st o D)
 x:W.heap[w.heap.size]?=sQ X
 q:blk W g R 271
 k:Lib.OthersKept 108 (sQ b) w W
 bel:Below b w W
 z:b<w.heap.size
def Ge:(Tp.info? 271).map (·.size)=sQ 3:=kr
def Gx{x y z:Int}:(#[I J x,I J y,I J z]:Array Value).all (·.oneCell')=true:=by simp[Value.oneCell']
def ku:(Tp.info? 53).map (·.size)=sQ 5:=kr
def fI.box(h:fI w0 w b o st rr (frC e i r (d:Int) a n cap 53) D v W):W.rangeAt w.heap.size 0 [bO e,I Zk (i:Int),bO r,I J (d:Int),sL a n cap]:=by
 obtain⟨k,c1,c2,c3,c4⟩:=cP h.x;intro j u c;match j,c with
 |0,c=>simp at c;subst c;exact k
 |1,c=>simp at c;subst c;exact c1
 |2,c=>simp at c;subst c;exact c2
 |3,c=>simp at c;subst c;exact c3
 |4,c=>simp at c;subst c;exact c4
def fI.len{X:Obj}(h:fI w0 w b o st rr X D v W):W.cell? ⟨b,0,nn⟩=sQ (I J ((aH st o (bM D)).length:Int)):=by
 obtain⟨⟨j,c,_⟩,_⟩:=h.s;exact(bw5 c).1.1
def gI.box(h:gI w0 w b o st rr (frC e i r (d:Int) a n cap 53) o2 D v g R W):W.rangeAt w.heap.size 0 [bO e,I Zk (i:Int),bO r,I J (d:Int),sL a n cap]:=by
 obtain⟨k,c1,c2,c3,c4⟩:=cP h.x;intro j u c;match j,c with
 |0,c=>simp at c;subst c;exact k
 |1,c=>simp at c;subst c;exact c1
 |2,c=>simp at c;subst c;exact c2
 |3,c=>simp at c;subst c;exact c3
 |4,c=>simp at c;subst c;exact c4
def gI.len{X:Obj}(h:gI w0 w b o st rr X o2 D v g R W):W.cell? ⟨b,0,nn⟩=sQ (I J (o2.length:Int)):=by
 obtain⟨⟨j,c,_⟩,_⟩:=h.s;exact(bw5 c).1.1
def lV(nx:Nat->Nat)(bt:Nat->List Nat):∀k f t,(iT nx bt k f t).length<=k
 |0,_,_=>nR _
 |k+1,f,t=>by
  unfold iT;split
  .simp
  .simp only[qV];have:=lV nx bt k (nx f) t;omega
def jq(w0 w:World)(b:Nat)(o:List Nat)(st:Bool)(rr:Nat × Nat)(h:bwS w0 b o st (gh st o rr) w)(hg:good st o)(e:Bool)(i:Nat)(r:Bool)(d:Nat)(a:Option Addr)(n cap:Nat)(l:List Nat)(j fr t:Nat)
  (hB:∀W,Below b w W->iB W a n cap l/\W.rangeAt 0 0 cQ/\0<W.heap.size) (hi:i<4294967296) (hd:d<=15) (hn:n<=8) (hs:j<32768)
  (h1:1<=fr) (a0:fr<t) (ht:t=10\/t=11\/t=15) (hT:o.length+2*(bM (lay e i r d l j fr t)).length<=3000) (hL:∀x∈bM (lay e i r d l j fr t),M.isL x) :
  ce 224 #[ap b,frV e i r (d:Int) a n cap,I J (j:Int),I J (fr:Int),I J (t:Int)] w fun o' w'=>∃v,o'=rT v/\bwS w0 b (aH st o (bM (lay e i r d l j fr t))) st (gh st (aH st o (bM (lay e i r d l j fr t))) rr) w'/\bF w' (w.heap.size+1) v (bp st o (lay e i r d l j fr t))/\Lib.OthersKept 108 (sQ b) w w'/\Below b w w':=by
 have hz:b<w.heap.size:=by obtain⟨⟨v,hh,_⟩,_⟩:=h;exact(bw5 hh).2.2
 have b1:l.length<=8:=by have:=(hB w (bW _ _)).1.len;omega
 have b3:=(hB w (bW _ _)).1.small;have a4:Hid (∀f,jc f e i r d l j<18446744073709551616):=fun f=>Bw hi hd hs b1 b3;have H0:Hid (fI w0 w b o st rr (frC e i r (d:Int) a n cap 53) [] (sL nn 0 0) (w.alloc (frC e i r (d:Int) a n cap 53))):=by
  refine⟨?_,⟨by simp[bp,spV],.inl ⟨rfl,rfl⟩⟩,by show(w.heap.push _)[w.heap.size]?=_;simp,(QG _ _ _).alloc _,(bW _ _).alloc (Q5 hz) _,hz⟩;exact h.below Zw
 have HB:=aa hB;have HG:=aa hg;have HT:=aa hT;have Z:=aa hL;have HX:Hid (∀f:Nat,1<=f->f<=14->∀X,Below b w X->ce 235 #[I J (f:Int),frV e i r (d:Int) a n cap] X fun o w'=>o=rT (aG #[I J (f:Int),I J (bQ f e r d:Int),I J (bK f e r d:Int)])/\Bl X w'):=fun f h1 h2 X A=>Ib X (hB X A).2.1 (hB X A).2.2 f h1 h2 e i r d hd a n cap;have HV:Hid (∀f:Nat,1<=f->f<=14->∀X,Below b w X->ce 256 #[I J (f:Int),frV e i r (d:Int) a n cap,I J (j:Int)] X fun o w'=>o=rT (I .u64 (jc f e i r d l j:Int))/\Bl X w'):=fun f h1 h2 X A=>fvN X f h1 h2 e i r d a n cap l j (hB X A).1 hi hd hn hs;have HA:=aa (qB h1 (qB a0 ht));clear h hg hB hT hL b1 b3 h1 a0 ht;go_enter func224,ntmps224;go_wp2_with fail;go_loopw [11,12] (fun v fv wr=>∃(D:List (Nat × List Nat))(k f:Nat),fv=I J (f:Int)/\(D++iT (fun f=>bK f e r d) (cG e i r d l j) k f t=lay e i r d l j fr t/\t<=f+k/\1<=f/\f<=t)/\fI w0 w b o st rr (frC e i r (d:Int) a n cap 53) D v wr) (fun _ i _=>((t:Int)-intOf i).toNat);case atStart=>exact⟨[],16,fr,rfl,⟨rfl,by have:=HA.o;omega,HA.o.1,by have:=HA.o;omega⟩,H0.o⟩
 case round=>
  obtain⟨D,k,f,rfl,hD,hF⟩:=hrel;have C:=aa hF;have Q:=aa hD;clear hF hD H0;by_cases a0:f=t
  .subst a0;have b9:D=lay e i r d l j fr f:=by
    have e0:iT (fun f=>bK f e r d) (cG e i r d l j) k f f=[]:=by cases k<;>simp[iT]
    have:=Q.o.1;rw[e0,Qg]at this;exact this
   subst b9;have br:((f:Int) !=(f:Int))=false:=pQ;go_wp2_with fail;go_ret;exact⟨_,rfl,C.o.s,C.o.ow,C.o.k,C.o.bel⟩
  .obtain⟨k,rfl⟩:∃k',k=k'+1:=⟨k-1,by have:=Q.o;omega⟩
   have bc:f<t:=by have:=Q.o;omega
   have am:1<=f:=Q.o.2.2.1;have bA:t<=15:=by have:=HA.o;omega
   have ao:f<=14:=om;have be:=Aa (e:=e) (r:=r) (d:=d) bc HA.o.2.2 om;have H:Hid (D++[(f,cG e i r d l j f)]++iT (fun f=>bK f e r d) (cG e i r d l j) k (bK f e r d) t=lay e i r d l j fr t):=by
    show _=_;have:=Q.o.1;rw[iT,QV a0]at this;rw[<- this];simp
   have bs:((f:Int) !=(t:Int))=true:=by simp;omega
   obtain⟨c0,c1,c2,c3,c4⟩:=cP C.o.x;obtain⟨⟨vw,af,_⟩,_⟩:=C.o.s;obtain⟨⟨d0,_⟩,_,a7⟩:=bw5 af;have bk:=C.o.size;clear af;go_upto_region 4 with fail
   go_cut [13,14] (fun bm bn wx=>∃g,bm=ap g/\bn=I J ((aH st o (bM D)).length:Int)/\blk wx g [I J (f:Int),I J (bQ f e r d:Int),I J (bK f e r d:Int)] 271/\wr.heap.size<=g/\Bl wr wx);case first=>
    have ad:Hid (∀X,Bl wr X->ce 235 #[I J (f:Int),.agg [bO e,I Zk (i:Int),bO r,I J (d:Int),sL a n cap].toArray] X fun y w'=>y=rT (.agg [I J (f:Int),I J (bQ f e r d:Int),I J (bK f e r d:Int)].toArray)/\Bl X w'):=fun X A=>HX.o f am ao X (C.o.below A).bel;clear HX HV HB a4 HT Z d0 c0 c1 c2 c3 c4;refine Qu (S:=fun X=>Bl wr X) kr ?_;have hS:Bl wr wr.drew:=(bW _ _).drew;change wpAnyH Tp _ _ _ _ _ _ _ wr.drew;generalize wr.drew=O at*;refine wV 0 (I J (f:Int)) ?_ hS ?_
    .intro W hSw;clear hS;go_simp
    simp only[Act.put,aA,aB,aC,aD,aE];refine wU 1 (.agg [bO e,I Zk (i:Int),bO r,I J (d:Int),sL a n cap].toArray) rfl (Qw (by rfl) 53 _ rfl w.heap.size 0 rfl [bO e,I Zk (i:Int),bO r,I J (d:Int),sL a n cap] _ (fun X h=>fI.box (C.o.below h)) underlying53 rfl ku) hS ?_;simp only[aZ];refine wV 3 (ap b) ?_ hS ?_
    .intro W hSw;clear hS;go_simp
    simp only[aZ];refine wV 4 (ap b) ?_ hS ?_
    .intro W hSw;clear hS;go_simp
    simp only[aZ];refine wV 5 (ap b) ?_ hS ?_
    .intro W hSw;clear hS;go_simp
    simp only[aZ];refine wV 6 (I J ((aH st o (bM D)).length:Int)) ?_ hS ?_
    .intro W hSw;clear hS;have q0:=(C.o.below hSw).len;clear hSw;go_simp
    simp only[aZ];refine Qq (rs:=[2,7]) kr pQ ?_;refine QT rfl (fun u p=>?_) (QT rfl (fun u p=>?_) QU)
    .go_simp;refine(ad.o _ hS).mono ?_;rintro y N ⟨rfl,K⟩;have B:=hS.trans (K.mono hS.size);go_wp2_with fail;refine p.out _ _ B (fun _=>?_);clear hS p u K;have hS:=B;clear B;refine Qq (rs:=[7]) kr pQ ?_;refine QT rfl (fun u p=>?_) QU;go_simp;have L:=hS.size;have E:blk (N.alloc (.cells [I J 0,I J 0,I J 0].toArray 271)) N.heap.size ([]++[I J 0,I J 0,I J 0]++[]) 271:=blk.new N _ 271;have B:=hS.alloc L (.cells [I J 0,I J 0,I J 0].toArray 271);refine p.out _ _ B (fun _=>?_);clear hS p u;have hS:=B;clear B;refine Qq (rs:=[8]) kr pQ ?_;refine QT rfl (fun u p=>?_) QU;rw[QW (by rfl)];refine QE (P:=Tp) 271 (.tmp 13) (.tmp 21) rfl N.heap.size 0 [I J (f:Int),I J (bQ f e r d:Int),I J (bK f e r d:Int)].toArray rfl rfl (E.there 0 3 pQ) Ge Gx ?_;have a6:=blk.put [] [I J 0,I J 0,I J 0] [] [I J (f:Int),I J (bQ f e r d:Int),I J (bK f e r d:Int)] E rfl;have Y:Bl wr (World.setCells _ N.heap.size 0 [I J (f:Int),I J (bQ f e r d:Int),I J (bK f e r d:Int)]):=sW L 0 _ hS;refine p.out _ _ Y (fun _=>?_);clear p u hS E;generalize World.setCells _ N.heap.size 0 [I J (f:Int),I J (bQ f e r d:Int),I J (bK f e r d:Int)]=X6 at*;refine Qq (rs:=[9]) kr pQ ?_;refine QT rfl (fun u p=>?_) QU;go_simp;refine p.out _ _ Y (fun _=>?_);clear p u;refine Qs kr ?_ _;go_wp2_with fail;go_meet;exact⟨N.heap.size,rfl,rfl,a6,L,Y⟩
    .go_simp;have L:=hS.size;have b2:blk (O.alloc (.cells [I J 0,I J 0,I J 0].toArray 271)) O.heap.size ([]++[I J 0,I J 0,I J 0]++[]) 271:=blk.new O _ 271;have B:=hS.alloc L (.cells [I J 0,I J 0,I J 0].toArray 271);refine p.out _ _ B (fun _=>?_);clear hS p u;have hS:=B;clear B;refine Qq (rs:=[2]) kr pQ ?_;refine QT rfl (fun u p=>?_) QU;go_simp;refine(ad.o _ hS).mono ?_;rintro y N ⟨rfl,K⟩;have B:=hS.trans (K.mono hS.size);have E:=b2.below K;clear b2;go_wp2_with fail;refine p.out _ _ B (fun _=>?_);clear hS p u K;have hS:=B;clear B;refine Qq (rs:=[8]) kr pQ ?_;refine QT rfl (fun u p=>?_) QU;rw[QW (by rfl)];refine QE (P:=Tp) 271 (.tmp 13) (.tmp 21) rfl O.heap.size 0 [I J (f:Int),I J (bQ f e r d:Int),I J (bK f e r d:Int)].toArray rfl rfl (E.there 0 3 pQ) Ge Gx ?_;have a6:=blk.put [] [I J 0,I J 0,I J 0] [] [I J (f:Int),I J (bQ f e r d:Int),I J (bK f e r d:Int)] E rfl;have Y:Bl wr (World.setCells _ O.heap.size 0 [I J (f:Int),I J (bQ f e r d:Int),I J (bK f e r d:Int)]):=sW L 0 _ hS;refine p.out _ _ Y (fun _=>?_);clear p u hS E;generalize World.setCells _ O.heap.size 0 [I J (f:Int),I J (bQ f e r d:Int),I J (bK f e r d:Int)]=X6 at*;refine Qq (rs:=[9]) kr pQ ?_;refine QT rfl (fun u p=>?_) QU;go_simp;refine p.out _ _ Y (fun _=>?_);clear p u;refine Qs kr ?_ _;go_wp2_with fail;go_meet;exact⟨O.heap.size,rfl,rfl,a6,L,Y⟩
   case rest=>
    obtain⟨g,rfl,rfl,E,L,ak⟩:=hcut;have bi:=a7;have U:=aa (qB E (qB L (C.o.below ak)));clear E ak C d0 c0 c1 c2 c3 c4 HX a7 bk;go_upto_region 5 with fail
    go_cut [] (fun wx=>gI w0 w b o st rr (frC e i r (d:Int) a n cap 53) (aH st (aH st o (bM D)) (cG e i r d l j f)) D u11 g [I J (f:Int),I J (bQ f e r d:Int),I J (bK f e r d:Int)] wx);case first=>
     have b8:Hid (∀X,Bl wc X->ce 256 #[I J (f:Int),.agg [bO e,I Zk (i:Int),bO r,I J (d:Int),sL a n cap].toArray,I J (j:Int)] X fun y w'=>y=rT (I .u64 (jc f e i r d l j:Int))/\Bl X w'):=fun X A=>HV.o f am ao X (U.o.2.2.below A).bel;have b4:Hid (∀X,Bl wc X->ce 255 #[ap b,I .u64 (jc f e i r d l j:Int),I J (bQ f e r d:Int)] X fun y w'=>y=rT (.tuple #[])/\gI w0 w b o st rr (frC e i r (d:Int) a n cap 53) (aH st (aH st o (bM D)) (cG e i r d l j f)) D u11 g [I J (f:Int),I J (bQ f e r d:Int),I J (bK f e r d:Int)] w'):=by
      intro X A;have h1:=U.o.2.2.below A;have bf:=U.o.1.below A;have a8:=HG.o.feedL (bM D) (fun x hx=>Z.o x (by rw[<- H.o];simp[ch,hx]));have aw:(bM D).length+bQ f e r d<=(bM (lay e i r d l j fr t)).length:=by
       rw[<- H.o,ch,ch,QX,QX];have:(bM [(f,cG e i r d l j f)]).length=bQ f e r d:=by simp[bM,cG,M.EI]
       omega
      have bq:=HT.o;refine(h1.s.since.bits a8.1 (jc f e i r d l j) (bQ f e r d) (a4.o f) yZ om).mono ?_;rintro y w' ⟨rfl,q1,G⟩;have a7:=h1.z;refine⟨rfl,⟨q1.row,h1.s.bel.trans q1.bel⟩,h1.ow.writer om G,?_,?_,zI h1.k G,h1.bel.trans q1.bel,h1.z⟩
      .exact G _ _ h1.x (by simp;omega) (by intro c fz e;cases e)
      .exact G _ _ bf (by have:=U.o.2.1;have:=bi;simp;omega) (by intro c fz e;cases e)
     have ac:Hid (∀X,Bl wc X->X.rangeAt w.heap.size 0 [bO e,I Zk (i:Int),bO r,I J (d:Int),sL a n cap]/\blk X g [I J (f:Int),I J (bQ f e r d:Int),I J (bK f e r d:Int)] 271):=fun X A=>⟨fI.box (U.o.2.2.below A),U.o.1.below A⟩
     have b6:Hid (∀X,gI w0 w b o st rr (frC e i r (d:Int) a n cap 53) (aH st (aH st o (bM D)) (cG e i r d l j f)) D u11 g [I J (f:Int),I J (bQ f e r d:Int),I J (bK f e r d:Int)] X->X.rangeAt w.heap.size 0 [bO e,I Zk (i:Int),bO r,I J (d:Int),sL a n cap]/\blk X g [I J (f:Int),I J (bQ f e r d:Int),I J (bK f e r d:Int)] 271):=fun X A=>⟨gI.box A,A.q⟩
     clear HV U a4 HT Z HG H Q HB;refine Qu (S:=fun X=>X.rangeAt w.heap.size 0 [bO e,I Zk (i:Int),bO r,I J (d:Int),sL a n cap]/\blk X g [I J (f:Int),I J (bQ f e r d:Int),I J (bK f e r d:Int)] 271) kr ?_;have hB:Bl wc wc.drew:=(bW _ _).drew;change wpAnyH Tp _ _ _ _ _ _ _ wc.drew;generalize wc.drew=O at*;have hS:=ac.o _ hB;refine wV 0 (ap b) ?_ hS ?_
     .intro W hSw;clear hS;go_simp
     simp only[Act.put,aA,aB,aC,aD,aE];refine wV 1 (I J (f:Int)) ?_ hS ?_
     .intro W hSw;clear hS;go_simp
     simp only[aZ];refine wU 2 (.agg [bO e,I Zk (i:Int),bO r,I J (d:Int),sL a n cap].toArray) rfl (Qw (by rfl) 53 _ rfl w.heap.size 0 rfl [bO e,I Zk (i:Int),bO r,I J (d:Int),sL a n cap] _ (fun X h=>h.1) underlying53 rfl ku) hS ?_;simp only[aZ];refine wV 3 (I J (j:Int)) ?_ hS ?_
     .intro W hSw;clear hS;go_simp
     simp only[aZ];refine wV 5 (pT (sQ ⟨g,1,nn⟩)) ?_ hS ?_
     .intro W hSw;clear hS;go_simp
     simp only[aZ];refine wV 6 (I J (bQ f e r d:Int)) ?_ hS ?_
     .intro W hSw;clear hS;have q0:=hSw.2.cell 1 (I J (bQ f e r d:Int)) rfl;clear hSw;go_simp
     simp only[aZ];refine Qq (rs:=[4]) kr pQ ?_;refine QT rfl (fun u p=>?_) QU;go_simp;refine(b8.o _ hB).mono ?_;rintro y N ⟨rfl,K⟩;have a5:=hB.trans (K.mono hB.size);go_wp2_with fail;refine p.out _ _ (ac.o _ a5) (fun _=>?_);clear hS p u K hB;refine Qq (rs:=[7]) kr pQ ?_;refine QT rfl (fun u p=>?_) QU;go_simp;refine(b4.o _ a5).mono ?_;rintro y v2 ⟨rfl,hG⟩;go_wp2_with fail;refine p.out _ _ (b6.o _ hG) (fun _=>?_);clear p u;refine Qs kr ?_ _;have T:=aa hG;clear hG a5;go_wp2_with fail;go_meet;exact T.o
    case rest=>
     have T:=aa hcut;clear hcut HV;have bu:(aH st o (bM D)).length<=3000:=by
      have a8:=HG.o.feedL (bM D) (fun x hx=>Z.o x (by rw[<- H.o];simp[ch,hx]));have aw:(bM D).length<=(bM (lay e i r d l j fr t)).length:=by
       rw[<- H.o,ch,ch,QX,QX];omega
      have:=HT.o;omega
     have bt:=AK st (cG e i r d l j f) (aH st o (bM D));have bw:(aH st (aH st o (bM D)) (cG e i r d l j f)).length<=3000:=by
      have e2:(aH st (aH st o (bM D)) (cG e i r d l j f))=aH st o (bM (D++[(f,cG e i r d l j f)])):=by rw[ch,eO];simp[bM]
      rw[e2];have a8:=HG.o.feedL (bM (D++[(f,cG e i r d l j f)])) (fun x hx=>Z.o x (by rw[<- H.o,ch];simp[hx]));have aw:(bM (D++[(f,cG e i r d l j f)])).length<=(bM (lay e i r d l j fr t)).length:=by
       rw[<- H.o,ch (D++_),QX];omega
      have:=HT.o;omega
     have d0:=T.o.len;have b7:Hid (bp st o (D++[(f,cG e i r d l j f)])=bp st o D++[(f,(aH st o (bM D)).length,(aH st (aH st o (bM D)) (cG e i r d l j f)).length-(aH st o (bM D)).length)]):=by
      show _=_;rw[kA,eO]
     have b5:Hid (aH st o (bM (D++[(f,cG e i r d l j f)]))=(aH st (aH st o (bM D)) (cG e i r d l j f))):=by
      show _=_;rw[ch,eO];simp[bM]
     have bb:(bp st o D).length<=1000000:=by
      rw[fB];have bo:(lay e i r d l j fr t).length<=16:=lV _ _ _ _ _;have:=congrArg List.length H.o;rw[QX,QX]at this;omega
     have bg:w.heap.size+1<=wc.heap.size:=by have:=T.o.x;rw[qL]at this;exact this.1
     clear HT Z HG a4 HB;generalize (aH st (aH st o (bM D)) (cG e i r d l j f))=o2 at*;generalize (aH st o (bM D)).length=n1 at*;go_wp2_with(at_builtin;refine Bh wc wc rfl (.tmp 34) (.tmp 44) rfl (w.heap.size+1) _ (bp st o D) (f,n1,o2.length-n1) _ _ _ rfl rfl (by show _=((o2.length-n1:Nat):Int);omega) rfl T.o.ow rfl bb bg (bW _ _) ?_);intro v' w' q1 G q3 q4;have a9:Hid (fI w0 w b o st rr (frC e i r (d:Int) a n cap 53) (D++[(f,cG e i r d l j f)]) v' w'/\blk w' g [I J (f:Int),I J (bQ f e r d:Int),I J (bK f e r d:Int)] 271):=by
      have hG:=T.o;have hz:=hG.z;refine⟨⟨?_,?_,?_,?_,?_,hz⟩,?_⟩
      .rw[b5.o];exact hG.s.spans G om q3
      .rw[b7.o];exact q1
      .exact (G.block _ om).trans hG.x
      .intro kk ob a1 a2 a3;have h4:=hG.k kk ob a1 a2 a3;have hk:kk<w.heap.size:=by rw[qL]at a1;exact a1.1
       exact(G.block kk om).trans h4
      .exact hG.bel.trans (G.mono om)
      .exact q3 _ _ hG.q pQ (by intro c fz e;cases e)
     have e2:=a9.o.2.cell 2 (I J (bK f e r d:Int)) rfl;clear q1 G q3 q4 T d0;go_wp2_with fail;go_roundw;case rel=>exact⟨D++[(f,cG e i r d l j f)],k,bK f e r d,by go_num,⟨H.o,by have:=Q.o;omega,om,be.2⟩,a9.o.1⟩
     case measure=>simp[intOf];omega
end
end Go.Proofs.YtbbffcolnddcdaaGreatDoor
