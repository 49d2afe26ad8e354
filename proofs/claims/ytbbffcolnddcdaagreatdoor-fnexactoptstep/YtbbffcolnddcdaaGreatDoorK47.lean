import Derived.Test.YtbbffcolnddcdaaGreatDoorK46
import Derived.Deep.DeepCutAuto
import Derived.StillTailTactics
import Derived.Test.YtbbffcolnddcdaaGreatDoorK44
import Derived.Deep.RegionHeld3
import Derived.Test.YtbbffcolnddcdaaGreatDoorK37
namespace Go.Proofs.YtbbffcolnddcdaaGreatDoor
open Go.RowKit
set_option linter.all false
open Go.Value renaming int->I,slice->sL,bool->bO,pointer->pT,agg->aG
open Go.IntKind renaming i64->J
open Go.Ending renaming returned->rT
open Go.Proofs.Tryz renaming prog->Tp
structure Os where
 s:Sl
 a:Option Addr
 n:Nat
 k:Nat
 aw:Option Addr
 nw:Nat
 kw:Nat
def pk3(N:Int)(aw:Option Addr)(nw kw:Nat)(cu:Int):List Value:=[I J N,sL aw nw kw,I J cu]
def opL(T:Co)(S:Sc)(N cu:Int)(o:Os):List Value:=coL T o.s++scL S o.a o.n o.k++pk3 N o.aw o.nw o.kw cu
def gP(T:Co)(S:Sc)(N cu:Int)(o:Os):(opL T S N cu o).length=35:=rfl
def opZ(s:Sl):Os:=⟨s,none,0,0,none,0,0⟩
def zOs:Os:=opZ zSl
def FQ:opL zCo scZ 0 0 zOs=Z35:=rfl
def dj(T:Co)(S:Sc)(N cu:Int)(o:Os):(Tp.info? 58).map (·.size)=some (opL T S N cu o).length:=kr
def cX(T:Co)(S:Sc)(N cu:Int)(o:Os):(Tp.info? 58).map (·.size)=some (opL T S N cu o).toArray.size:=kr
def cC(T:Co)(S:Sc)(N cu:Int)(o:Os):(opL T S N cu o).toArray.all (·.oneCell')=true:=Qv (by simp[opL,coL,scL,pk3,Value.oneCell'])
structure fY(W:World)(T:Co)(S:Sc)(ws:List Nat)(o:Os):Prop where
 h:bj W T.ho o.s
 d:iB W o.a o.n o.k S.l
 w:ah W o.aw o.nw o.kw ws
def fY.below{W W':World}{T:Co}{S:Sc}{ws:List Nat}{o:Os}(h:fY W T S ws o)(hb:Bl W W'):fY W' T S ws o:=⟨h.h.below hb,h.d.below hb,h.w.below hb⟩
def yg(W:World):ah W none 0 0 []:=⟨rfl,nR _,pQ,fun h=>Qj rfl h⟩
def yi(W:World):iB W none 0 0 scZ.l:=⟨rfl,nR _,pQ,fun h=>Qj rfl h⟩
def yh(W:World):fY W zCo scZ [] zOs:=⟨DP W,yi W,yg W⟩
def snd(C:Co):Bool:=C.p==1&&C.tx
def Dw(E:ByteArray):pkL E ((E.size+63) / 64)=wl (lt E):=by
 unfold wl;rw[o9,aN,DZ]
def bj.small{w:World}{H:Ho}{s:Sl}(h:bj w H s)(j:Nat)(a:j<H.bx.length):∀x∈H.bx[j].l,x<256:=by
 obtain⟨g,off,_,b⟩:=h.bx.cells (fun e=>by rw[e]at a;cases a);obtain⟨d,m,c,h8⟩:=b j a;exact h8.dat.small
def ly{C:Co}(h:cH C)(g:wrP C.ho.bx)(c:onI C.ho.bx<C.ho.bx.length):vB C.ho.bx[onI C.ho.bx].e C.ho.bx[onI C.ho.bx].i C.ho.bx[onI C.ho.bx].r C.ho.bx[onI C.ho.bx].d C.ho.bx[onI C.ho.bx].l.length=true:=by
 have h1:=h.h.bx.1 (onI C.ho.bx) c;have f:C.ho.bx[onI C.ho.bx].x≠0:=by
  have:=List.findIdx_getElem (xs:=C.ho.bx) (p:=fun b:R8=>b.x==2||b.x==3) (w:=c);intro e;have a:(C.ho.bx[onI C.ho.bx].x==2||C.ho.bx[onI C.ho.bx].x==3)=true:=this;rw[e]at a;simp at a
 unfold cV at h1;rw[QV f]at h1;exact h1.2.2.2
def pN{C:Co}(h:cH C)(d:wrP C.ho.bx):okT (aq C) 4000=true/\(aq C).size<=4000:=by
 obtain⟨h1,g,a⟩:=eU C h d;refine⟨?_,om⟩;unfold okT;rw[Q3];refine⟨by simp;omega,List.all_eq_true.2 fun x f=>?_⟩;obtain⟨j,b,rfl⟩:=List.getElem_of_mem f;have c:j<(aq C).size:=by simpa using b
 have:=a j c;rw[CE]at this;unfold okC;generalize (aq C).data.toList[j]=y at*;rcases this with e|e
 .have:y=48:=UInt8.toNat_inj.1 e;subst this;rfl
 .have:y=49:=UInt8.toNat_inj.1 e;subst this;rfl
section
variable{w:World}{B:Nat}{l:List Nat}
def ae.is{a:Option Addr}{n k:Nat}(h:ae w B (sL a n k) l)(hs:∀x∈l,x<256):iB w a n k l:=by
 obtain⟨b,c,e,hi⟩:=h.bytes hs;cases e;exact hi
def ab.keep{w':World}{v:Value}(h:ab w B v l)(hk:∀q,B<=q->q<w.heap.size->w'.heap[q]?=w.heap[q]?):ab w' B v l:=h.otherBlock fun g hg=>hk g (Qm h g hg).1 (Qm h g hg).2
def yI(N:Int)(a:Option Addr)(n k:Nat):(Tp.info? 56).map (·.size)=some (#[I J N,sL a n k]:Array Value).size:=kr
def sb(N:Int)(a:Option Addr)(n k:Nat):(#[I J N,sL a n k]:Array Value).all (·.oneCell')=true:=Qv (by simp[Value.oneCell'])
end
open Go.Proofs.Tryz
open Option renaming none->nn,some->sQ
open Go renaming World->Wd
set_option maxRecDepth 20000
set_option maxHeartbeats 16000000
section
variable{w:Wd}{b M:Nat}{N cu:Int}{T:TypeId}
def ocL(M:Nat)(S:Sc)(N cu:Int)(o:Os):List Value:=[ap M]++scL S o.a o.n o.k++pk3 N o.aw o.nw o.kw cu
def osS(o:Os)(s:Sl):Os:=⟨s,o.a,o.n,o.k,o.aw,o.nw,o.kw⟩
def acO(C:Co)(s:Sl)(S:Sc)(N cu:Int)(o:Os):List Value:=Z22++opL C S N cu (osS o s)
def rp(C:Co)(s:Sl)(S:Sc)(N cu:Int)(o:Os):(acO C s S N cu o).length=57:=rfl
def wm(C:Co)(s:Sl)(S:Sc)(N cu:Int)(o:Os):(acO C s S N cu o).toArray.all (·.oneCell')=true:=Qv (by simp[acO,Z22,opL,coL,scL,pk3,Value.oneCell'])
def kY{S:Sc}{o:Os}(h:blk w b (ocL M S N cu o) T):w.rangeAt b 1 (scL S o.a o.n o.k):=blk.loadAt [ap M] (scL S o.a o.n o.k) (pk3 N o.aw o.nw o.kw cu) h
def pw{S:Sc}{o:Os}(h:blk w b (ocL M S N cu o) T):w.rangeAt b 12 [I J N,sL o.aw o.nw o.kw]:=blk.loadAt ([ap M]++scL S o.a o.n o.k) [I J N,sL o.aw o.nw o.kw] [I J cu] (by have:=h;unfold ocL pk3 at this;rw[Q2 _ _ [Value.int .i64 cu]];exact this)
def A7(w:Wd)(C:Co)(s:Sl)(S:Sc)(N cu:Int)(o:Os):(Instr.build 58 #[(0,aG (coL C s).toArray),(1,aG (scL S o.a o.n o.k).toArray),(2,.agg [I J N,sL o.aw o.nw o.kw].toArray),(3,I J cu)]).run Tp w= .ok (aG (opL C S N cu (osS o s)).toArray) w:=kr
def C1(w:Wd)(C:Co)(s:Sl)(S:Sc)(N cu:Int)(o:Os):(Instr.build 87 #[(1,aG (opL C S N cu (osS o s)).toArray)]).run Tp w= .ok (aG (acO C s S N cu o).toArray) w:=kr
def Hy(w:Wd)(a:Addr):(Instr.typeAssert (.iface 80 (pT (sQ a))) 130 190 true).run Tp w= .ok (.tuple #[.pointer nn,bO false]) w:=kr
def Hx(w:Wd)(a:Addr):(Instr.typeAssert (.iface 80 (pT (sQ a))) 130 80 true).run Tp w= .ok (.tuple #[pT (sQ a),bO true]) w:=kr
def so (w : Wd) (R : Nat) : (method 489 80 (pT (sQ ⟨R, 0, nn⟩)) "loop.example/s01647/impl.core").run Tp w = (do let v <- loadVar 122 ⟨R, 0, nn⟩; pure ((345 : FuncId), v) : Sem (FuncId × Value)).run Tp w := by kernel_rfl
def ug (w : Wd) (M R : Nat) (a : w.cell? ⟨R, 0, nn⟩ = sQ (pT (sQ ⟨M, 0, nn⟩))) : (method 489 80 (pT (sQ ⟨R, 0, nn⟩)) "loop.example/s01647/impl.core").run Tp w = .ok (345, pT (sQ ⟨M, 0, nn⟩)) w := by
 rw[so];have:(loadVar 122 ⟨R,0,nn⟩).run Tp w= .ok (ap M) w:=by go_simp
 rw[QS,this];rfl
def ye(W:Wd)(M R:Nat)(S:Sc)(N cu:Int)(g:Os)(C:Co)(Q:Nat->Nat->Sl->Wd->Prop)(hQ:∀B T s d c,(∀k,B<=k->k<T->c.heap[k]?=d.heap[k]?)->Q B T s d->Q B T s c)(O:blk W R (ocL M S N cu g) 125)(ht:∀X,Bl W X->ce 140 #[ap M] X fun o w'=>∃t,o=rT (aG (coL C t).toArray)/\Q X.heap.size w'.heap.size t w'/\Bl X w'):ce 84 #[.iface 80 (ap R)] W fun o w'=>∃t B T,o=rT (aG (acO C t S N cu g).toArray)/\Q B T t w'/\W.heap.size<=B/\T<=w'.heap.size/\Bl W w':=by
 have HR:=hI O;have HT:=hI ht;have y:=aa hQ;clear hQ;have i:Hid (Bl W (W.alloc (.cells Z57.toArray 87))/\blk (W.alloc (.cells Z57.toArray 87)) W.heap.size Z57 87):=⟨Zw,blk.new W _ 87⟩
 obtain⟨v,H⟩:∃v,v=W.alloc (.cells Z57.toArray 87):=⟨_,rfl⟩
 rw[<- H]at i;obtain⟨h,G⟩:∃h,v.heap.size=h:=⟨_,rfl⟩
 have Z:=aa G;have a0:Hid (W.heap.size<h):=by rw[<- G];exact i.o.2.lt
 clear G;have y0:=(O.below i.o.1).cell 0 (ap M) rfl;have hm:=ug v M R y0;clear O ht y0;go_enter func84,ntmps84;go_upto_region 1 with fail
 change Code.wp _ _ _ _ (W.alloc (.cells Z57.toArray 87));rw[<- H];clear H;go_wp2_with(go_at_call 345;refine(AX _ _).mono ?_;rintro o d ⟨rfl,rfl⟩);refine(HT.o _ i.o.1).mono ?_;rintro o d ⟨f,rfl,L,K⟩;rw[Z.o]at L;have A:=hI (qB L a0.o);clear L Z a0;have l:=(show Hid _ from qB (i.o.1.trans (K.mono i.o.1.size)) (i.o.2.below K))
 clear K i HT hm;have H2:Hid (Bl W (d.alloc (.cells zY.toArray 52))/\blk (d.alloc (.cells zY.toArray 52)) W.heap.size Z57 87/\blk (d.alloc (.cells zY.toArray 52)) d.heap.size Z21 52/\W.heap.size<d.heap.size):=⟨l.o.1.alloc l.o.1.size _,l.o.2.alloc _,blk.new d _ 52,l.o.2.lt⟩
 clear l;go_upto_region 2 with(refine Zs 52 (coL C f).toArray (H2.o.2.2.1.there 0 _ (by rw[Q7,cL];decide)) (eY C f) (cO C f) ?_;generalize a1:World.setCells _ d.heap.size 0 _=c;have E:Hid (_=c):=a1;clear a1)
 have p:Hid (Bl W c/\blk c W.heap.size Z57 87/\blk c d.heap.size (coL C f) 52/\W.heap.size<d.heap.size/\blk c R (ocL M S N cu g) 125):=by
  have e:=E.o;have r:Bl W c:=by rw[<- e];exact sW (by have:=H2.o.2.2.2;omega) 0 _ H2.o.1
  refine⟨r,?_,?_,H2.o.2.2.2,HR.o.below r⟩
  .rw[<- e];exact H2.o.2.1.other (by have:=H2.o.2.2.2;omega) _ _
  .rw[<- e];have:=blk.put [] Z21 [] (coL C f) (w:=d.alloc (.cells zY.toArray 52)) (b:=d.heap.size) (T:=52) (by simpa using H2.o.2.2.1) (by rw[cL];rfl);simpa using this
 have D:Hid (Q h d.heap.size f c/\W.heap.size<h/\d.heap.size<=c.heap.size):=by
  have e:=E.o;have r:Bl d c:=by rw[<- e];exact sW (nR _) 0 _ Zw
  exact⟨y.o _ _ _ _ _ (fun k _ h2=>r.block k h2) A.o.1,A.o.2,r.size⟩
 clear H2 E HR A;have a4:=Hy c ⟨R,0,nn⟩;have a5:=Hx c ⟨R,0,nn⟩;go_wp2_with fail;refine wp_region_still_tail 15 kr kr ?_;change wpStill Tp _ (World.drew c) (fun a'=>wpList Tp _ _ _ a' (World.drew c)) _ _;have j:Hid (Bl W (World.drew c)/\blk (World.drew c) W.heap.size Z57 87/\blk (World.drew c) d.heap.size (coL C f) 52/\blk (World.drew c) R (ocL M S N cu g) 125):=⟨p.o.1.drew,p.o.2.1,p.o.2.2.1,p.o.2.2.2.2⟩
 have a6:=j.o.2.2.2.cell 14 _ rfl;clear a4 a5 p;have u:Hid (Q h d.heap.size f (World.drew c)/\W.heap.size<h/\d.heap.size<=(World.drew c).heap.size):=⟨y.o _ _ _ c (World.drew c) (fun k _ _=>rfl) D.o.1,D.o.2⟩
 clear D;generalize World.drew c=U at*;simp only[List.take_succ_cons,List.take_zero,List.drop_succ_cons,List.drop_zero];refine dD (by rfl) 52 _ rfl d.heap.size 0 rfl (coL C f) _ j.o.2.2.1.load underlying52 rfl (aV C f) ?_;simp only[Act.put];still_step
 still_step
 still_step
 refine dD (by rfl) 55 _ rfl R 1 rfl (scL S g.a g.n g.k) _ (kY j.o.2.2.2) underlying55 rfl (dY _ _ _ _) ?_;simp only[Act.put];still_step
 still_step
 still_step
 refine dD (by rfl) 56 _ rfl R 12 rfl [I J N,sL g.aw g.nw g.kw] _ (pw j.o.2.2.2) underlying56 rfl (yI N _ _ _) ?_;simp only[Act.put];still_step
 still_step
 still_step
 still_step
 refine iW (by rfl) 58 _ rfl _ (by simp[go_sem]) _ (A7 U C f S N cu g) ?_;simp only[Act.put];refine iW (by rfl) 87 _ rfl _ (by simp[go_sem]) _ (C1 U C f S N cu g) ?_;simp only[Act.put];refine wpStill_nil ?_
 go_wp2_with(refine Zs 87 (acO C f S N cu g).toArray (j.o.2.1.there 0 _ (by rw[Q7,rp];decide)) BH (wm C f S N cu g) ?_;generalize a2:World.setCells _ W.heap.size 0 _=Y;have a3:Hid (_=Y):=a2;clear a2)
 have x:=a3.o;have hF:blk Y W.heap.size (acO C f S N cu g) 87:=by
  rw[<- x];have:=blk.put [] Z57 [] (acO C f S N cu g) (w:=U) (b:=W.heap.size) (T:=87) (by simpa using j.o.2.1) (by rw[rp];rfl);simpa using this
 have hL:=Qt (P:=Tp) Y W.heap.size 0 87 _ _ hF.load underlying87 rfl BH;refine bC results84 hL ?_;refine⟨f,rfl,h,d.heap.size,y.o _ _ _ _ _ (fun k h1 _=>?_) u.o.1,by have:=u.o.2.1;omega,?_,?_⟩
 .rw[<- x];exact sO _ k (by have:=u.o.2.1;omega) _ _ _
 .rw[<- x,sZ];exact u.o.2.2
 .rw[<- x];exact sW om 0 _ j.o.1
end
def kZ(M:Nat)(S:Sc)(N cu:Int)(o:Os):(ocL M S N cu o).length=15:=rfl
def Av(e:Bool)(i:Nat)(r:Bool)(d:Int)(l:List Nat)(a:vB e i r d l.length=true):lt (eP e i r d l.length l)=imZ e i r d l.length l:=by
 unfold eP imZ jm;rw[QW a,QW a];refine jD _ fun x b=>?_;rcases List.mem_append.1 b with h|h
 .rcases M.FO _ (cZ e i r d.toNat l) x h with q|q<;>omega
 .have:=(List.mem_replicate.1 h).2;omega
structure rZ(B:Nat)(T:Co)(S:Sc)(ws:List Nat)(q:Os)(W:World):Prop where
 d:S.l≠[]->ae W B (sL q.a q.n q.k) S.l
 dn:q.n=S.l.length
 w:ab W B (sL q.aw q.nw q.kw) ws
 wn:q.nw=ws.length
 h:∃B1 E1,tlQ T B1 E1 q.s W/\B<=B1/\E1<=W.heap.size/\(S.l≠[]->∀g,(Value.slice q.a q.n q.k).ownBlock=some g->g<B1)/\∀g,(Value.slice q.aw q.nw q.kw).ownBlock=some g->g<B1
section
variable{w:World}{b:Nat}{T:Co}{N cu:Int}{Ty:TypeId}
def bJ{S:Sc}{q:Os}(h:blk w b (opL T S N cu q) Ty):w.rangeAt b 0 (coL T q.s):=blk.loadAt [] (coL T q.s) (scL S q.a q.n q.k++pk3 N q.aw q.nw q.kw cu) (by have:=h;unfold opL at this;rw[List.nil_append,<- Q2];exact this)
def dy{S:Sc}{q:Os}(h:blk w b (opL T S N cu q) Ty):w.rangeAt b 21 (scL S q.a q.n q.k):=blk.loadAt (coL T q.s) (scL S q.a q.n q.k) (pk3 N q.aw q.nw q.kw cu) h
def eC{S:Sc}{q:Os}(h:blk w b (opL T S N cu q) Ty):w.rangeAt b 32 [I J N,sL q.aw q.nw q.kw]:=blk.loadAt (coL T q.s++scL S q.a q.n q.k) [I J N,sL q.aw q.nw q.kw] [I J cu] (by have:=h;unfold opL pk3 at this;rw[Q2 _ _ [Value.int .i64 cu]];exact this)
def eH(N:Int)(a:Option Addr)(n k:Nat):(Tp.info? 56).map (·.size)=some ([I J N,sL a n k]:List Value).length:=kr
def oj(W:World)(T:Co)(S:Sc)(N cu:Int)(ws:List Nat)(a c:Os)(h1:fY W T S ws a)(x:fY W T S ws c)(A:T.ho.le 1048576)(hs:S.l.length<=1048576)(B:ws.length<=1048576):ce 8 #[aG (opL T S N cu a).toArray,aG (opL T S N cu c).toArray] W fun o w'=>o=rT (bO true)/\Bl W w':=by
 have e:Hid (blk ((W.alloc (.cells (opL T S N cu a).toArray 58)).alloc (.cells (opL T S N cu c).toArray 58)) W.heap.size (opL T S N cu a) 58/\blk ((W.alloc (.cells (opL T S N cu a).toArray 58)).alloc (.cells (opL T S N cu c).toArray 58)) (W.heap.size+1) (opL T S N cu c) 58/\Bl W ((W.alloc (.cells (opL T S N cu a).toArray 58)).alloc (.cells (opL T S N cu c).toArray 58))):=by
  refine⟨(blk.new W _ 58).alloc _,?_,Zw.alloc pQ _⟩;have:=blk.new (W.alloc (.cells (opL T S N cu a).toArray 58)) (opL T S N cu c) 58;simpa using this
 obtain⟨C,r⟩:∃C,C=(W.alloc (.cells (opL T S N cu a).toArray 58)).alloc (.cells (opL T S N cu c).toArray 58):=⟨_,rfl⟩
 rw[<- r]at e;have g:Hid (∀X,Bl W X->fY X T S ws a/\fY X T S ws c):=fun X y=>⟨h1.below y,x.below y⟩
 have p:=aa (qB A (qB hs B));clear h1 x A hs B;go_enter func8,ntmps8;go_upto_region 1 with fail
 change Code.wp _ _ _ _ ((W.alloc (.cells (opL T S N cu a).toArray 58)).alloc (.cells (opL T S N cu c).toArray 58));rw[<- r]
 clear r;go_wp2_with(first|(refine ZG 52 (bJ e.o.1) underlying52 (aV _ _) ?_)|(refine ZG 52 (bJ e.o.2.1) underlying52 (aV _ _) ?_))
 refine(Ip _ T a.s c.s (g.o _ e.o.2.2).1.h (g.o _ e.o.2.2).2.h p.o.1).mono ?_;rintro o t ⟨rfl,i⟩;have f:Hid (blk t W.heap.size (opL T S N cu a) 58/\blk t (W.heap.size+1) (opL T S N cu c) 58/\Bl W t):=⟨e.o.1.below i,e.o.2.1.below i,e.o.2.2.trans (i.mono e.o.2.2.size)⟩
 clear i e;go_wp2_with(first|(refine ZG 55 (dy f.o.1) underlying55 (dY _ _ _ _) ?_)|(refine ZG 55 (dy f.o.2.1) underlying55 (dY _ _ _ _) ?_))
 refine(sU _ S _ _ _ (g.o _ f.o.2.2).1.d _ _ _ (g.o _ f.o.2.2).2.d (by have:=(g.o _ f.o.2.2).1.d.len;have:=p.o.2.1;omega)).mono ?_;rintro o u ⟨rfl,j⟩;have H2:Hid (blk u W.heap.size (opL T S N cu a) 58/\blk u (W.heap.size+1) (opL T S N cu c) 58/\Bl W u):=⟨f.o.1.below j,f.o.2.1.below j,f.o.2.2.trans (j.mono f.o.2.2.size)⟩
 clear j f;go_wp2_with(first|(refine ZG 56 (eC H2.o.1) underlying56 (eH _ _ _ _) ?_)|(refine ZG 56 (eC H2.o.2.1) underlying56 (eH _ _ _ _) ?_))
 refine(nu _ N _ _ _ ws (g.o _ H2.o.2.2).1.w _ _ _ (g.o _ H2.o.2.2).2.w (by have:=(g.o _ H2.o.2.2).1.w.len;have:=p.o.2.2;omega)).mono ?_;rintro o v ⟨rfl,k⟩;have n:Hid (blk v W.heap.size (opL T S N cu a) 58/\blk v (W.heap.size+1) (opL T S N cu c) 58/\Bl W v):=⟨H2.o.1.below k,H2.o.2.1.below k,H2.o.2.2.trans (k.mono H2.o.2.2.size)⟩
 clear k H2;have D:=n.o.1.cell 34 (I J cu) rfl;have E:=n.o.2.1.cell 34 (I J cu) rfl;go_wp2_with fail;go_ret;exact⟨rfl,n.o.2.2⟩
end
section
variable{w:World}{B n k:Nat}{l:List Nat}
def xc{g:Option Addr}(h:ae w B (sL g n k) l):(g=none/\n=0/\k=0/\l=[])\/∃q,g=be q:=by
 rcases h.2 with⟨e,a⟩|⟨b,cap,cur,c,d,i,f,j,p,r⟩
 .cases e;exact .inl ⟨rfl,rfl,rfl,List.length_eq_zero_iff.1 a⟩
 .cases c;exact .inr ⟨b,rfl⟩
def ae.rw{g:Nat}(h:ae w B (sL (be g) n k) l)(u:n=l.length):B<=g/\g<w.heap.size/\n<=k/\∃f,bV w g n f:=by
 obtain⟨h0,h1|⟨p,cap,cur,e,d,i,r,s,hs,j⟩⟩:=h
 .cases h1.1
 .cases e;have a:w.heap[g]?=some (.cells cur 5):=i;refine⟨d,av a,om,fun t=>l.getD t 0,fun t v=>?_,fun t _=>?_⟩
  .have hlen:(bv l).length=l.length:=by simpa using h0
   have b:cur.toList[t]?=(bv l)[t]?:=by
    rw[<- j,List.getElem?_take,QW om]
   rw[oz l t om]at b;have c:cur[t]?=some (I .u8 (l[t]:Int)):=by rw[<- qN];exact b
   simp[World.cell?,a,c,qj,Q4 (show t<l.length by omega)]
  .simp[World.frozen?,a]
def En{S:Sc}{a:Option Addr}(h:S.l≠[]->ae w B (sL a n k) S.l)(hB:B<=w.heap.size)(r:n=S.l.length)(D:S.l.length<=1048576)(c:Nat)(v:c<=10000000000000000):ce 35 #[aG (scL S a n k).toArray,I J (c:Int)] w fun o w'=>o=rT (I J ((c+n:Nat):Int))/\Below B w w'/\(∀b,b<w.heap.size->(S.l≠[]->∀g,(Value.slice a n k).ownBlock=some g->g≠b)->w'.heap[b]?=w.heap[b]?)/\∀d,(S.l≠[]->∀g,(Value.slice a n k).ownBlock=some g->d.heap[g]?=w'.heap[g]?)->w'.heap.size<=d.heap.size->ce 38 #[aG (scL S a n k).toArray,I J (c:Int)] d fun o C=>o=rT (I J ((c+n:Nat):Int))/\Bl d C:=by
 by_cases i:S.l=[]
 .rw[i]at r;subst r;refine(pe (.inl ⟨rfl,rfl⟩) om (fun w'=>Bl w w') w S a 0 k fun X p=>(DM (.inl rfl) X a k _).mono fun o w' ⟨q,e⟩=>⟨q,e ▸ p⟩).mono ?_;rintro o w' ⟨rfl,u⟩;exact⟨rfl,u.mono hB,fun b h1 _=>u.block b h1,fun d _ _=>pe (.inr ⟨rfl,rfl⟩) om (fun w'=>Bl d w') d S a 0 k fun X p=>(DM (.inr rfl) X a k _).mono fun o w' ⟨q,e⟩=>⟨q,e ▸ p⟩⟩
 have h:=h i;rcases xc h with⟨rfl,rfl,rfl,e⟩|⟨g,rfl⟩
 .exact Qj e i
 .obtain⟨h1,h2,h3,f,hf⟩:=h.rw r;refine(jB w S g n k c f hf h2 h3 om v).mono ?_;rintro o w' ⟨rfl,j⟩;refine⟨rfl,j.bel.mono h1,fun b y A=>j.oth b (fun e=>A i g rfl e.symm) y,fun d x E=>?_⟩;have e:=x i g rfl;have hs:=j.bel.size;refine pP d S g n k c ⟨fun t s=>(eV e t).trans (j.row.cell t s),fun t s=>?_⟩ om h3 om v;have:=j.row.free t s;unfold World.frozen? at this ⊢;rw[e];exact this
def MKO(B:Nat)(T:Co)(S:Sc)(N cu:Int)(q:Os)(w:World):Prop:=∀W,(∀x,B<=x->x<w.heap.size->W.heap[x]?=w.heap[x]?)->w.heap.size<=W.heap.size->ce 9 #[aG (opL T S N cu q).toArray,I J 1] W fun o w1=>∃k:Nat,o=rT (I J (k:Int))/\Below B W w1/\(∀x,w.heap.size<=x->x<W.heap.size->w1.heap[x]?=W.heap[x]?)/\∀W2,Bl w1 W2->ce 10 #[aG (opL T S N cu q).toArray,I J 1] W2 fun o w2=>o=rT (I J (k:Int))/\Bl W2 w2
def Fh(W:World)(T:Co)(S:Sc)(N d:Int)(q:Os)(k1 k2 k3:Nat)
  (h1:∀X,Bl W X->ce 37 #[aG (coL T q.s).toArray,I J 1] X fun o w'=>o=rT (I J (k1:Int))/\Bl X w')
  (g:∀X,Bl W X->ce 38 #[aG (scL S q.a q.n q.k).toArray,I J (k1:Int)] X fun o w'=>o=rT (I J (k2:Int))/\Bl X w')
  (h:∀X,Bl W X->ce 39 #[pkV N q.aw q.nw q.kw,I J (k2:Int)] X fun o w'=>o=rT (I J (k3:Int))/\Bl X w') :
  ce 10 #[aG (opL T S N d q).toArray,I J 1] W fun o w'=>o=rT (I J (k3:Int))/\Bl W w':=by
 have b:Hid (blk (W.alloc (.cells (opL T S N d q).toArray 58)) W.heap.size (opL T S N d q) 58/\Bl W (W.alloc (.cells (opL T S N d q).toArray 58))):=⟨blk.new W _ 58,Zw⟩
 have t:=aa h1;have u:=aa g;have v:=aa h;have n1:¬(k1:Int)<0:=om;have n2:¬(k2:Int)<0:=om;have n3:¬(k3:Int)<0:=om;clear h1 g h;go_enter func10,ntmps10;go_wp2_with(refine ZG 52 (bJ b.o.1) underlying52 (aV _ _) ?_);refine(t.o _ b.o.2).mono ?_;rintro o j ⟨rfl,e⟩;have c:Hid (blk j W.heap.size (opL T S N d q) 58/\Bl W j):=⟨b.o.1.below e,b.o.2.trans (e.mono b.o.2.size)⟩
 clear e b;go_wp2_with(refine ZG 55 (dy c.o.1) underlying55 (dY _ _ _ _) ?_);refine(u.o _ c.o.2).mono ?_;rintro o p ⟨rfl,f⟩;have H2:Hid (blk p W.heap.size (opL T S N d q) 58/\Bl W p):=⟨c.o.1.below f,c.o.2.trans (f.mono c.o.2.size)⟩
 clear f c;go_wp2_with(refine ZG 56 (eC H2.o.1) underlying56 (eH _ _ _ _) ?_);refine(v.o _ H2.o.2).mono ?_;rintro o x ⟨rfl,i⟩;have r:Hid (Bl W x):=H2.o.2.trans (i.mono H2.o.2.size);clear i H2;go_wp2_with fail;go_ret;exact⟨rfl,r.o⟩
end
section
variable{w:World}{B:Nat}{T:Co}{ws l:List Nat}{N cu:Int}
def xd{B':Nat}{v u:Value}{m:List Nat}(h:ae w B v l)(f:ab w B' u m):∀g,v.ownBlock=some g->∀b,u.ownBlock=some b->g≠b:=by
 intro g i b j e;obtain⟨c,n,a⟩:=h.kind g i;obtain⟨k,p,d⟩:=f.kind b j;rw[e,d]at a;injection a with a
 injection a with _ a _
 exact Qj a (by decide)
def lK{a:Option Addr}{n k:Nat}(h:ab w B (sL a n k) l):∀x,a=some x->(Value.slice a n k).ownBlock=some x.block:=by
 intro x b;obtain⟨_,h1|⟨g,cap,cur,e,_⟩⟩:=h
 .cases h1.1;cases b
 .cases e;cases b;rfl
def Ab{i:Nat}{S:Sc}{q:Os}(hd:S.l≠[]->ae w B (sL q.a q.n q.k) S.l)(a7:q.n=S.l.length)(v:ab w B (sL q.aw q.nw q.kw) ws)(a9:q.nw=ws.length)(a6:MKC i T q.s w)(U:B<=i)(a5:i<=w.heap.size)(d1:S.l≠[]->∀g,(Value.slice q.a q.n q.k).ownBlock=some g->g<i)(d2:∀g,(Value.slice q.aw q.nw q.kw).ownBlock=some g->g<i)(hS:S.l.length<=1048576)(ac:ws.length<=1048576):MKO B T S N cu q w:=by
 intro W hW G;have D:S.l≠[]->∀g,(Value.slice q.a q.n q.k).ownBlock=some g->B<=g/\g<i:=fun e g c=>⟨(Qm (hd e) g c).1,d1 e g c⟩
 have E:∀g,(Value.slice q.aw q.nw q.kw).ownBlock=some g->B<=g/\g<i:=fun g c=>⟨(Qm v g c).1,d2 g c⟩
 have t:=fun e=>xd (hd e) v;have p:Hid (blk (W.alloc (.cells (opL T S N cu q).toArray 58)) W.heap.size (opL T S N cu q) 58/\Bl W (W.alloc (.cells (opL T S N cu q).toArray 58))):=⟨blk.new W _ 58,Zw⟩
 obtain⟨H,Y⟩:∃H,H=W.alloc (.cells (opL T S N cu q).toArray 58):=⟨_,rfl⟩
 rw[<- Y]at p;have M:∀x,B<=x->x<w.heap.size->H.heap[x]?=w.heap[x]?:=fun x a b=>(p.o.2.block x om).trans (hW x a b);have HM:Hid (ce 34 #[aG (coL T q.s).toArray,I J 1] H fun o d=>∃k1:Nat,o=rT (I J (k1:Int))/\k1<=100000000000000/\blk d W.heap.size (opL T S N cu q) 58/\Below B W d/\w.heap.size<d.heap.size/\(∀x,w.heap.size<=x->x<W.heap.size->d.heap[x]?=W.heap[x]?)/\(S.l≠[]->ae d B (sL q.a q.n q.k) S.l)/\ab d B (sL q.aw q.nw q.kw) ws/\∀j,(∀x,i<=x->x<w.heap.size->j.heap[x]?=d.heap[x]?)->w.heap.size<=j.heap.size->ce 37 #[aG (coL T q.s).toArray,I J 1] j fun o f=>o=rT (I J (k1:Int))/\Bl j f):=by
  refine(a6 H (fun x a b=>M x om b) (by have:=p.o.2.size;omega)).mono ?_;rintro o d ⟨k1,rfl,hk,h1,h2,h3⟩;have ao:=p.o.1.lt;have ap:=h1.size;refine⟨k1,rfl,hk,p.o.1.kept (h2 _ G ao),(p.o.2.mono om).trans (h1.mono U),om,fun x a b=>(h2 x a om).trans (p.o.2.block x b),?_,?_,h3⟩
  .exact fun e=>(hd e).otherBlock fun g c=>(h1.block g (D e g c).2).trans (M g (D e g c).1 (by have:=D e g c;omega))
  .exact v.otherBlock fun g c=>(h1.block g (E g c).2).trans (M g (E g c).1 (by have:=E g c;omega))
 have K:=aa (qB D (qB E t));have u:=aa (qB a7 (qB a9 (qB hS ac)));have L:=aa (qB G (qB a5 U));clear hd a7 v a9 hW G a5 a6 D E t M U d1 d2 hS ac;go_enter func9,ntmps9;go_upto_region 1 with fail
 change Code.wp _ _ _ _ (W.alloc (.cells (opL T S N cu q).toArray 58));rw[<- Y];clear Y;go_wp2_with(refine ZG 52 (bJ p.o.1) underlying52 (aV _ _) ?_);refine HM.o.mono ?_;rintro o d ⟨k1,rfl,a8,b1,a4,z1,o1,ad,af,c1⟩;have h:Hid (blk d W.heap.size (opL T S N cu q) 58/\Below B W d/\w.heap.size<d.heap.size/\(∀x,w.heap.size<=x->x<W.heap.size->d.heap[x]?=W.heap[x]?)/\(S.l≠[]->ae d B (sL q.a q.n q.k) S.l)/\ab d B (sL q.aw q.nw q.kw) ws):=⟨b1,a4,z1,o1,ad,af⟩
 have a0:=aa c1;have P:=aa a8;clear b1 a4 z1 o1 ad af c1 a8 HM p;go_wp2_with(refine ZG 55 (dy h.o.1) underlying55 (dY _ _ _ _) ?_);refine(En h.o.2.2.2.2.1 (by have:=L.o;have:=h.o.2.2.1;omega) u.o.1 u.o.2.2.1 k1 (by have:=P.o;omega)).mono ?_;rintro o f ⟨rfl,Q,Z,c2⟩;have t:=K.o.2.2;have H2:Hid (blk f W.heap.size (opL T S N cu q) 58/\Below B W f/\d.heap.size<=f.heap.size/\(∀x,w.heap.size<=x->x<W.heap.size->f.heap[x]?=W.heap[x]?)/\ab f B (sL q.aw q.nw q.kw) ws/\∀x,i<=x->x<w.heap.size->f.heap[x]?=d.heap[x]?):=by
  have G:=L.o;have hd:=K.o.1;have l1:=h.o.1.lt;have n1:∀x,i<=x->x<d.heap.size->f.heap[x]?=d.heap[x]?:=fun x a b=>Z x b (fun A g c e=>by have:=hd A g c;omega);refine⟨h.o.1.kept (n1 _ om l1),h.o.2.1.trans Q,Q.size,fun x a b=>(n1 x om om).trans (h.o.2.2.2.1 x a b),h.o.2.2.2.2.2.otherBlock fun g c=>Z g (Qm h.o.2.2.2.2.2 g c).2 (fun e g' am=>t e g' am g c),fun x a b=>n1 x a (by have:=h.o.2.2.1;omega)⟩
 have a1:=aa c2;have a3:=aa h.o.2.2.1;have a2:Hid (S.l≠[]->∀g,(Value.slice q.a q.n q.k).ownBlock=some g->g<d.heap.size):=fun e g c=>(Qm (h.o.2.2.2.2.1 e) g c).2;clear Q Z c2 h t;go_wp2_with(refine ZG 56 (eC H2.o.1) underlying56 (eH _ _ _ _) ?_);refine(iC f B N q.aw q.nw q.kw (k1+q.n) ws H2.o.2.2.2.2.1 u.o.2.1 (by have:=P.o;have:=u.o;omega) (by have:=L.o;have:=a3.o;have:=H2.o.2.2.1;omega)).mono ?_;rintro o O ⟨rfl,ak,R,o3⟩;have H3:Hid (Below B W O/\(∀x,w.heap.size<=x->x<W.heap.size->O.heap[x]?=W.heap[x]?)/\∀j,Bl O j->ce 10 #[aG (opL T S N cu q).toArray,I J 1] j fun o f=>o=rT (I J ((k1+q.n+q.nw:Nat):Int))/\Bl j f):=by
  have G:=L.o;have v:=K.o.2.1;have t:=K.o.2.2;have l1:=a3.o;have l2:=H2.o.2.2.1;have l3:=R.size;have hh:=lK H2.o.2.2.2.2.1;have n2:∀x,i<=x->x<f.heap.size->O.heap[x]?=f.heap[x]?:=fun x a b=>o3 x b (fun y hy e=>by have:=v _ (hh y hy);omega);have lW:=H2.o.1.lt;refine⟨H2.o.2.1.trans R,fun x a b=>(n2 x om om).trans (H2.o.2.2.2.1 x a b),fun j r=>?_⟩;have l4:=r.size;refine Fh j T S N cu q k1 (k1+q.n) (k1+q.n+q.nw) (fun X C=>?_) (fun X C=>?_) (fun X C=>?_)
  .have hX':=r.trans (C.mono r.size);have:=hX'.size;exact a0.o X (fun x a b=>((hX'.block x om).trans (n2 x a om)).trans (H2.o.2.2.2.2.2 x a b)) om
  .have hX':=r.trans (C.mono r.size);have:=hX'.size;exact a1.o X (fun A g c=>(hX'.block g (by have:=a2.o A g c;omega)).trans (o3 g (by have:=a2.o A g c;omega) (fun y hy e=>t A g c _ (hh y hy) e.symm))) om
  .have hX':=r.trans (C.mono r.size);exact mf X B N q.aw q.nw q.kw (k1+q.n) ws (ak.below hX') u.o.2.1 (by have:=P.o;have:=u.o;omega)
 clear ak R o3 H2 a0 a1;go_wp2_with fail;go_ret;exact⟨_,rfl,H3.o⟩
def rZ.mko{S:Sc}{q:Os}(h:rZ B T S ws q w)(hS:S.l.length<=1048576)(r:ws.length<=1048576):MKO B T S N cu q w:=by
 obtain⟨b,t,⟨s,i,f,j,k⟩,n,p,e,g⟩:=h.h;have a:whS b w.heap.size w s:=(f w fun _ _ _=>rfl).2.mono (nR _) p;have c:b<=w.heap.size:=Q5 (zb a.fb.1 a.fb.2);exact Ab h.d h.dn h.w h.wn (by rw[i];exact MKQ.core (a.mkq j k) c) n c e g hS r
def Bn(B:Nat)(w:World)(hB:B<=w.heap.size):MKO B zCo scZ 0 0 zOs w:=Ab (ws:=[]) (fun e=>Qj rfl e) rfl (gu _ _) rfl (MKQ.core (T:=zCo) (Bo B w hB) hB) (nR _) hB (fun e=>Qj rfl e) (fun g hg=>by cases hg) (by decide) (by decide)
def rZ.st{S:Sc}{q:Os}(h:rZ B T S ws q w)(hs:∀x∈S.l,x<256)(hw:∀x∈ws,x<18446744073709551616):St B w (fun W=>fY W T S ws q):=fun W hW=>by
 obtain⟨B1,E1,⟨s4,es,f,g1,g2⟩,hb1,he1,d1,d2⟩:=h.h;have h2:ab W B (sL q.aw q.nw q.kw) ws:=h.w.keep hW;refine⟨by rw[es];exact(f W fun k a b=>hW k om om).1,?_,h2.words h.wn hw (h2.cap h.wn)⟩;by_cases e:S.l=[]
 .rw[h.dn,e];exact⟨rfl,nZ _,(fun x hx=>by cases hx),fun e=>Qj rfl e⟩
 .exact ((h.d e).otherBlock fun g hg=>hW g (Qm (h.d e) g hg).1 (Qm (h.d e) g hg).2).is hs
end
set_option maxHeartbeats 4000000
def gK{l l':List Nat}{k:Nat}(h:l.take k=l'.take k)(h1:k<l.length)(a:k<l'.length)(e:l[k]=l'[k]):l.take (k+1)=l'.take (k+1):=by
 rw[qe h1,qe a,h,e]
def Fp(w:World)(a1 a2:Option Addr)(n1 c1 n2 c2:Nat)(a b:List Nat)(h1:ah w a1 n1 c1 a)(d:ah w a2 n2 c2 b)(R:n1<=1048576)(S:n2<=1048576):ce 189 #[sL a1 n1 c1,sL a2 n2 c2] w fun o w'=>bH o (a=b)/\Bl w w':=by
 have c:=h1.len;have f:=d.len;by_cases hne:n1=n2
 .by_cases g:a=[]
  .have hn0:n1=0:=by rw[c,g];rfl
   have n:b=[]:=List.length_eq_zero_iff.1 om;have G:n2=0:=om;subst hn0 G;have p:Hid (a=b):=by show _=_;rw[g,n]
   clear c f h1 d g n hne;go_enter func189,ntmps189;go_wp2;go_loopw [13] (fun i wr=>i=I J 0/\wr=w) (fun _ _=>0);case atStart=>exact⟨rfl,rfl⟩
   case round=>
    obtain⟨rfl,rfl⟩:=hrel;go_wp2;go_ret;exact⟨⟨true,rfl,fun _=>p.o,fun _=>rfl⟩,bW _ _⟩
  .have n:b≠[]:=fun e=>g (List.length_eq_zero_iff.1 (by rw[<- c,hne,f,e];rfl));obtain⟨D,K,rfl,k1⟩:=h1.cells g;obtain⟨E,L,rfl,k2⟩:=d.cells n;subst hne;have r:Hid (n1=a.length):=c;have s:Hid (n1=b.length):=f;have M:=h1.small;have s2:=d.small;have B:Hid (∀j(h:j<a.length),w.cell? ⟨D,K+j,none⟩=some (I .u64 (a[j]:Int))):=k1;have C:Hid (∀j(h:j<b.length),w.cell? ⟨E,L+j,none⟩=some (I .u64 (b[j]:Int))):=k2;have O:=h1.cap;have P:=d.cap;clear c f h1 d g n k1 k2 M s2;go_enter func189,ntmps189;go_wp2;go_loopw [13] (fun i wr=>∃k:Nat,k<=n1/\i=I J k/\a.take k=b.take k/\∃q,wr=w.drewN q) (fun i _=>n1-(intOf i).toNat);case atStart=>exact⟨0,nZ _,rfl,pQ,0,rfl⟩
   case round=>
    obtain⟨k,Q,rfl,v,q,rfl⟩:=hrel;have t:=aa v;clear v;by_cases u:k<n1
    .have j1:k<a.length:=by rw[<- r.o];exact u
     have A:k<b.length:=by rw[<- s.o];exact u
     have W:=B.o k j1;have N:=C.o k A;by_cases l:a[k]=b[k]
     .have HN:Hid (a.take (k+1)=b.take (k+1)):=gK t.o j1 A l;rw[<- l]at N;clear l;generalize a[k]=x at*;go_wp2;go_quiet (fail);go_wp2;go_roundw;case rel=>exact⟨k+1,om,by go_num,HN.o,_,rfl⟩
      case measure=>simp[intOf];omega
     .have HN:Hid (¬a=b):=fun e=>l (by subst e;rfl);have H:¬(a[k]:Int)=(b[k]:Int):=fun e=>l (by exact_mod_cast e);have U:((a[k]:Int) !=(b[k]:Int))=true:=by simp;exact H
      clear l;generalize a[k]=x at*;generalize b[k]=y at*;go_wp2;go_quiet (fail);go_wp2;go_ret;exact⟨⟨false,rfl,fun e=>(by cases e),fun e=>Qj e HN.o⟩,QB (di _ _) _⟩
    .have hkn:k=n1:=om;subst hkn;have p:Hid (a=b):=by
      have:=t.o;rw[QY (by rw[<- r.o];exact nR _),QY (by rw[<- s.o];exact nR _)]at this;exact this
     go_wp2;go_ret;exact⟨⟨true,rfl,fun _=>p.o,fun _=>rfl⟩,di _ _⟩
 .have HN:Hid (¬a=b):=fun e=>hne (by rw[c,f,e]);have T:((n1:Int) !=(n2:Int))=true:=by simp;omega
  clear c f h1 d;go_enter func189,ntmps189;go_wp2;go_ret;exact⟨⟨false,rfl,fun e=>(by cases e),fun e=>Qj e HN.o⟩,bW _ _⟩
def zp(w:World)(N a:Int)(a1 a2:Option Addr)(n1 c1 n2 c2:Nat)(f g:List Nat)(h1:ah w a1 n1 c1 f)(h:ah w a2 n2 c2 g)(l:n1<=1048576)(n:n2<=1048576):ce 135 #[pkV N a1 n1 c1,pkV a a2 n2 c2] w fun o w'=>bH o (N=a/\f=g)/\Bl w w':=by
 have c:Hid (Bl w ((w.alloc (.cells #[I J N,sL a1 n1 c1] 56)).alloc (.cells #[I J a,sL a2 n2 c2] 56))):=Zw.alloc pQ _;have r:Hid (∀W,Bl w W->ce 189 #[sL a1 n1 c1,sL a2 n2 c2] W fun o w'=>bH o (f=g)/\Bl W w'):=fun W i=>Fp W _ _ _ _ _ _ _ _ (h1.below i) (h.below i) l n;clear h1 h l n;by_cases d:N=a
 .subst d;go_enter func135,ntmps135;go_wp2_with fail;refine(r.o _ c.o).mono ?_;rintro o t ⟨⟨b,rfl,j⟩,k⟩;have p:Hid (Bl w t):=c.o.trans (k.mono c.o.size);have H2:=aa j;clear j k;go_wp2;go_ret;exact⟨⟨b,rfl,fun e=>⟨by trivial,H2.o.1 e⟩,fun e=>H2.o.2 e.2⟩,p.o⟩
 .have hNb:(N==a)=false:=by simpa using d
  have s:=aa d;clear d;go_enter func135,ntmps135;go_wp2;go_ret;exact⟨⟨false,rfl,fun e=>(by cases e),fun e=>Qj e.1 s.o⟩,c.o⟩
def Am(w:World)(N c:Int)(a1 a2:Option Addr)(n1 c1 n2 c2:Nat)(a b:List Nat)(h1:ah w a1 n1 c1 a)(h:ah w a2 n2 c2 b)(R:n1<=1048576)(S:n2<=1048576):ce 46 #[pkV N a1 n1 c1,pkV c a2 n2 c2] w fun o w'=>bH o (N=c/\a=b)/\Bl w w':=by
 have d:Hid (Bl w ((w.alloc (.cells #[I J N,sL a1 n1 c1] 56)).alloc (.cells #[I J c,sL a2 n2 c2] 56))):=Zw.alloc pQ _;have l:Hid (blk ((w.alloc (.cells #[I J N,sL a1 n1 c1] 56)).alloc (.cells #[I J c,sL a2 n2 c2] 56)) w.heap.size [I J N,sL a1 n1 c1] 56):=(blk.new w _ 56).alloc _;have n:Hid (blk ((w.alloc (.cells #[I J N,sL a1 n1 c1] 56)).alloc (.cells #[I J c,sL a2 n2 c2] 56)) (w.heap.size+1) [I J c,sL a2 n2 c2] 56):=by
  show blk _ _ _ _;have:=blk.new (w.alloc (.cells #[I J N,sL a1 n1 c1] 56)) [I J c,sL a2 n2 c2] 56;simpa using this
 obtain⟨j,s⟩:∃j,j=(w.alloc (.cells #[I J N,sL a1 n1 c1] 56)).alloc (.cells #[I J c,sL a2 n2 c2] 56):=⟨_,rfl⟩
 rw[<- s]at d l n;replace h1:=h1.below d.o
 replace h:=h.below d.o
 have x0:=l.o.cell 0 _ rfl;have x1:=l.o.cell 1 _ rfl;have y0:=n.o.cell 0 _ rfl;have y1:=n.o.cell 1 _ rfl;clear l n;have t:=aa h1.len;have u:=aa h.len;have H:=aa h1;have H2:=aa h;clear h1 h;go_enter func46,ntmps46;go_upto_region 1 with fail
 change Code.wp _ _ _ _ ((w.alloc (.cells #[I J N,sL a1 n1 c1] 56)).alloc (.cells #[I J c,sL a2 n2 c2] 56));rw[<- s];clear s;by_cases p:N=c
 .subst p;by_cases hne:n1=n2
  .subst hne;have v:Hid (n1=a.length):=t;have A:Hid (n1=b.length):=u;have B:Hid (ah j a1 n1 c1 a):=H;have C:Hid (ah j a2 n1 c2 b):=H2;go_wp2;go_loopw [5] (fun i wr=>∃k:Nat,k<=n1/\i=I J k/\a.take k=b.take k/\∃q,wr=j.drewN q) (fun i _=>n1-(intOf i).toNat);case atStart=>exact⟨0,nZ _,rfl,pQ,0,rfl⟩
   case round=>
    obtain⟨k,Q,rfl,G,q,rfl⟩:=hrel;have D:=aa G;clear G;by_cases E:k<n1
    .have j1:k<a.length:=by rw[<- v.o];exact E
     have r:k<b.length:=by rw[<- A.o];exact E
     obtain⟨O,W,rfl,k1⟩:=B.o.cells (fun e=>by rw[e]at j1;cases j1);obtain⟨P,X,rfl,k2⟩:=C.o.cells (fun e=>by rw[e]at r;cases r);have z1:=k1 k j1;have M:=k2 k r;have Y:=B.o.cap;have Z:=C.o.cap;clear k1 k2;by_cases g:a[k]=b[k]
     .have f:Hid (a.take (k+1)=b.take (k+1)):=gK D.o j1 r g;rw[<- g]at M;clear g;generalize a[k]=x at*;go_wp2;go_quiet (fail);go_wp2;go_roundw;case rel=>exact⟨k+1,om,by go_num,f.o,_,rfl⟩
      case measure=>simp[intOf];omega
     .have f:Hid (¬a=b):=fun e=>g (by subst e;rfl);have L:¬(a[k]:Int)=(b[k]:Int):=fun e=>g (by exact_mod_cast e);have U:((a[k]:Int) !=(b[k]:Int))=true:=by simp;exact L
      clear g;generalize a[k]=x at*;generalize b[k]=y at*;go_wp2;go_quiet (fail);go_wp2;go_ret;exact⟨⟨false,rfl,fun e=>(by cases e),fun e=>Qj e f.o⟩,QB d.o _⟩
    .have hkn:k=n1:=om;subst hkn;have K:Hid (a=b):=by
      have:=D.o;rw[QY (by rw[<- v.o];exact nR _),QY (by rw[<- A.o];exact nR _)]at this;exact this
     go_wp2;go_ret;exact⟨⟨true,rfl,fun _=>K.o,fun _=>rfl⟩,QB d.o _⟩
  .have f:Hid (¬a=b):=fun e=>hne (by rw[t.o,u.o,e]);have T:((n1:Int) !=(n2:Int))=true:=by simp;omega
   go_wp2;go_ret;exact⟨⟨false,rfl,fun e=>(by cases e),fun e=>Qj e f.o⟩,d.o⟩
 .have hNb:(N !=c)=true:=by simpa using p
  have f:=aa p;clear p;go_wp2;go_ret;exact⟨⟨false,rfl,fun e=>(by cases e),fun e=>Qj e.1 f.o⟩,d.o⟩
open Go.IntKind renaming i64->J,u32->Zk
def eqN{i j:Nat}(h:((i:Int)==(j:Int))=true):i=j:=by
 have:(i:Int)=(j:Int):=by simpa using h
 omega
def E0(w:World)(e:Bool)(i:Nat)(r:Bool)(d:Int)(a1:Option Addr)(n1 c1:Nat)(j:List Nat)(h1:iB w a1 n1 c1 j)
  (c:Bool) (f:Nat) (g:Bool) (a:Int) (a2:Option Addr) (n2 c2:Nat) (l:List Nat) (B:iB w a2 n2 c2 l) (hn:n1<=1048576) (a3:n2<=1048576) :
  ce 102 #[frV e i r d a1 n1 c1,frV c f g a a2 n2 c2] w fun o w'=>bH o (e=c/\i=f/\r=g/\d=a/\j=l)/\Bl w w':=by
 have n:Hid (Bl w ((w.alloc (.cells #[bO e,I Zk (i:Int),bO r,I J d,sL a1 n1 c1] 53)).alloc (.cells #[bO c,I Zk (f:Int),bO g,I J a,sL a2 n2 c2] 53))):=Zw.alloc pQ _;have s:Hid (blk ((w.alloc (.cells #[bO e,I Zk (i:Int),bO r,I J d,sL a1 n1 c1] 53)).alloc (.cells #[bO c,I Zk (f:Int),bO g,I J a,sL a2 n2 c2] 53)) w.heap.size [bO e,I Zk (i:Int),bO r,I J d,sL a1 n1 c1] 53):=(blk.new w _ 53).alloc _;have t:Hid (blk ((w.alloc (.cells #[bO e,I Zk (i:Int),bO r,I J d,sL a1 n1 c1] 53)).alloc (.cells #[bO c,I Zk (f:Int),bO g,I J a,sL a2 n2 c2] 53)) (w.heap.size+1) [bO c,I Zk (f:Int),bO g,I J a,sL a2 n2 c2] 53):=by
  show blk _ _ _ _;have:=blk.new (w.alloc (.cells #[bO e,I Zk (i:Int),bO r,I J d,sL a1 n1 c1] 53)) [bO c,I Zk (f:Int),bO g,I J a,sL a2 n2 c2] 53;simpa using this
 obtain⟨D,C⟩:∃D,D=(w.alloc (.cells #[bO e,I Zk (i:Int),bO r,I J d,sL a1 n1 c1] 53)).alloc (.cells #[bO c,I Zk (f:Int),bO g,I J a,sL a2 n2 c2] 53):=⟨_,rfl⟩
 rw[<- C]at n s t;have A:=aa h1.len;have E:=aa B.len;have G:=aa (h1.below n.o);have H2:=aa (B.below n.o);obtain⟨X,p⟩:∃X:Prop,Hid (X↔(e=c/\i=f/\r=g/\d=a/\j=l)):=⟨_,Iff.rfl⟩
 have S:ce 102 #[frV e i r d a1 n1 c1,frV c f g a a2 n2 c2] w fun o w'=>bH o X/\Bl w w':=by
  have x0:=s.o.cell 0 _ rfl;have x1:=s.o.cell 1 _ rfl;have x2:=s.o.cell 2 _ rfl;have x3:=s.o.cell 3 _ rfl;have x4:=s.o.cell 4 _ rfl;have y0:=t.o.cell 0 _ rfl;have y1:=t.o.cell 1 _ rfl;have y2:=t.o.cell 2 _ rfl;have y3:=t.o.cell 3 _ rfl;have y4:=t.o.cell 4 _ rfl;clear s t h1 B;go_enter func102,ntmps102;go_upto_region 1 with fail
  change Code.wp _ _ _ _ ((w.alloc (.cells #[bO e,I Zk (i:Int),bO r,I J d,sL a1 n1 c1] 53)).alloc (.cells #[bO c,I Zk (f:Int),bO g,I J a,sL a2 n2 c2] 53));rw[<- C];clear C;cases q1:(e==c)
  .have HN:Hid (¬X):=fun x=>by have:=(p.o.1 x).1;rw[this]at q1;simp at q1
   have T:(e !=c)=true:=by rw[bne,q1];rfl
   go_wp2;go_ret;exact⟨⟨false,rfl,fun e=>(by cases e),fun e=>Qj e HN.o⟩,n.o⟩
  have T:(e !=c)=false:=by rw[bne,q1];rfl
  cases q2:((i:Int)==(f:Int))
  .have HN:Hid (¬X):=fun x=>by have:=(p.o.1 x).2.1;rw[this]at q2;simp at q2
   have U:((i:Int) !=(f:Int))=true:=by rw[bne,q2];rfl
   go_wp2;go_ret;exact⟨⟨false,rfl,fun e=>(by cases e),fun e=>Qj e HN.o⟩,n.o⟩
  have U:((i:Int) !=(f:Int))=false:=by rw[bne,q2];rfl
  cases q3:(r==g)
  .have HN:Hid (¬X):=fun x=>by have:=(p.o.1 x).2.2.1;rw[this]at q3;simp at q3
   have W:(r !=g)=true:=by rw[bne,q3];rfl
   go_wp2;go_ret;exact⟨⟨false,rfl,fun e=>(by cases e),fun e=>Qj e HN.o⟩,n.o⟩
  have W:(r !=g)=false:=by rw[bne,q3];rfl
  cases q4:(d==a)
  .have HN:Hid (¬X):=fun x=>by have:=(p.o.1 x).2.2.2.1;rw[this]at q4;simp at q4
   have Y:(d !=a)=true:=by rw[bne,q4];rfl
   go_wp2;go_ret;exact⟨⟨false,rfl,fun e=>(by cases e),fun e=>Qj e HN.o⟩,n.o⟩
  have Y:(d !=a)=false:=by rw[bne,q4];rfl
  cases q5:((n1:Int)==(n2:Int))
  .have HN:Hid (¬X):=fun x=>by have:=(p.o.1 x).2.2.2.2;rw[A.o,E.o,this]at q5;simp at q5
   have Z:((n1:Int) !=(n2:Int))=true:=by rw[bne,q5];rfl
   go_wp2;go_ret;exact⟨⟨false,rfl,fun e=>(by cases e),fun e=>Qj e HN.o⟩,n.o⟩
  have Z:((n1:Int) !=(n2:Int))=false:=by rw[bne,q5];rfl
  have N:Hid (j=l->X):=fun h=>p.o.2 ⟨by simpa using q1,eqN q2,by simpa using q3,by simpa using q4,h⟩;have hne:n1=n2:=eqN q5;have H:Hid (n1=l.length):=by show _=_;rw[hne];exact E.o
  go_wp2;go_loopw [5] (fun i wr=>∃k:Nat,k<=n1/\i=I J k/\j.take k=l.take k/\∃q,wr=D.drewN q) (fun i _=>n1-(intOf i).toNat);case atStart=>exact⟨0,nZ _,rfl,pQ,0,rfl⟩
  case round=>
   obtain⟨k,hk,rfl,M,q,rfl⟩:=hrel;have K:=aa M;clear M;by_cases L:k<n1
   .have j1:k<j.length:=by rw[<- A.o];exact L
    have v:k<l.length:=by rw[<- H.o];exact L
    obtain⟨g1,o1,rfl,k1⟩:=G.o.cells (fun e=>by rw[e]at j1;cases j1);obtain⟨g2,o2,rfl,k2⟩:=H2.o.cells (fun e=>by rw[e]at v;cases v);have z1:=k1 k j1;have z2:=k2 k v;have p1:=G.o.cap;have p2:=H2.o.cap;have a0:k<n2:=om;clear k1 k2;by_cases u:j[k]=l[k]
    .have HN:Hid (j.take (k+1)=l.take (k+1)):=gK K.o j1 v u;rw[<- u]at z2;clear u;generalize j[k]=x at*;clear hne;go_wp2;go_quiet (fail);go_wp2;go_roundw;case rel=>exact⟨k+1,om,by go_num,HN.o,_,rfl⟩
     case measure=>simp[intOf];omega
    .have HN:Hid (¬X):=fun e=>u (by have:=(p.o.1 e).2.2.2.2;subst this;rfl);have R:¬(j[k]:Int)=(l[k]:Int):=fun e=>u (by exact_mod_cast e);have a4:((j[k]:Int) !=(l[k]:Int))=true:=by simp;exact R
     clear u;generalize j[k]=x at*;generalize l[k]=y at*;clear hne;go_wp2;go_quiet (fail);go_wp2;go_ret;exact⟨⟨false,rfl,fun e=>(by cases e),fun e=>Qj e HN.o⟩,QB (QB n.o _) _⟩
   .have hkn:k=n1:=om;subst hkn;have O:Hid X:=by
     have:=K.o;rw[QY (by rw[<- A.o];exact nR _),QY (by rw[<- H.o];exact nR _)]at this;exact N.o this
    clear hne;go_wp2;go_ret;exact⟨⟨true,rfl,fun _=>O.o,fun _=>rfl⟩,QB n.o _⟩
 refine S.mono ?_;rintro o w' ⟨⟨b,rfl,P⟩,Q⟩;exact⟨⟨b,rfl,P.trans p.o⟩,Q⟩
def mkA(S:Sc):Array Value:=#[I J S.f,I J S.lf,I J S.rn,I J S.lv,I J S.cr,I J S.ac]
def mkQ(S T:Sc):Bool:=(S.f==T.f)&&((S.lf==T.lf)&&((S.rn==T.rn)&&((S.lv==T.lv)&&((S.cr==T.cr)&&(S.ac==T.ac)))))
def xI : (Tp.fieldsOf 239).toList.map (fun f => (f.type, f.offset, decide (f.name ≠ "_"))) = [(3, 0, true), (3, 1, true), (3, 2, true), (3, 3, true), (3, 4, true), (3, 5, true)] := by kernel_rfl
def D8:Tp.underlying 239=some (.struct (Tp.fieldsOf 239)):=kr
def CA:Tp.stoodInHeld 239=false:=kr
def gF (w : World) (d : Nat) (xs c : Array Value) (f : Field) (e : List Field) (a b : Int) (i : decide (f.name ≠ "_") = true) (l : f.type = 3) (g : (part 3 xs f.offset).run Tp w = .ok (I J a) w) (h : (part 3 c f.offset).run Tp w = .ok (I J b) w) (R : Bool) (k : (Op.eqFields (d + 1) xs c e).run Tp w = .ok R w):(Op.eqFields (d+1) xs c (f::e)).run Tp w= .ok ((a==b)&&R) w:=by
 have j : f.name ≠ "_" := qJ i;unfold Op.eqFields;rw[QW j,l];simp only[QS,g,h,Result.andThen_ok,run_equalIn_int w d 3 .i64 .i64 a b underlying3];cases (a == b)
 .simp
 .simp[k]
def CQ(w:World)(S T:Sc):(Op.equalIn 10000 239 (aG (mkA S)) (aG (mkA T))).run Tp w= .ok (mkQ S T) w:=by
 rw[run_equalIn_struct w 9999 239 _ _ D8 CA];have h:=xI;generalize (Tp.fieldsOf 239).toList=a at*;rcases a with _|⟨i,_|⟨j,_|⟨k,_|⟨l,_|⟨n,_|⟨f5,_|⟨y,a⟩⟩⟩⟩⟩⟩⟩
 all_goals first|(simp at h;done)|skip
 case cons.cons.cons.cons.cons.cons.nil=>
  simp only[Qi,List.map_nil,List.cons.injEq,Prod.mk.injEq,and_true]at h;obtain⟨⟨s,b,p⟩,⟨t1,c,n1⟩,⟨t,d,n2⟩,⟨u,e,n3⟩,⟨v,f,n4⟩,⟨x,g,r⟩⟩:=h;unfold mkQ;refine gF w 9998 _ _ i _ _ _ p s (by rw[b];kernel_rfl) (by rw[b];kernel_rfl) _ ?_;refine gF w 9998 _ _ j _ _ _ n1 t1 (by rw[c];kernel_rfl) (by rw[c];kernel_rfl) _ ?_;refine gF w 9998 _ _ k _ _ _ n2 t (by rw[d];kernel_rfl) (by rw[d];kernel_rfl) _ ?_;refine gF w 9998 _ _ l _ _ _ n3 u (by rw[e];kernel_rfl) (by rw[e];kernel_rfl) _ ?_;refine gF w 9998 _ _ n _ _ _ n4 v (by rw[f];kernel_rfl) (by rw[f];kernel_rfl) _ ?_;have:=gF w 9998 (mkA S) (mkA T) f5 [] S.ac T.ac r x (by rw[g];kernel_rfl) (by rw[g];kernel_rfl) true (by simp[Op.eqFields]);simpa using this
def uH:Tp.eqGuardType Tp.depth 239=false:=kr
def oc(w:World)(S:Sc)(a:Option Addr)(n cap:Nat):ce 190 #[scV S a n cap] w fun o w'=>o=rT (aG (mkA S))/\Bl w w':=by
 obtain⟨f,lf,rn,lv,cr,ac,e,i,r,d,l⟩:=S;go_enter func190,ntmps190;go_wp2;refine Qp (v:=aG (mkA ⟨f,lf,rn,lv,cr,ac,e,i,r,d,l⟩)) (by simp[results,results190,go_sem,mkA]) rfl ⟨rfl,?_⟩
 first
  |exact Zw.alloc pQ _
  |(repeat refine Below.setCell ?_ pQ _
    exact Zw.alloc pQ _)
section
variable{w:World}{a:Option Addr}{n k:Nat}
def rS{b:Nat}{S:Sc}{T:TypeId}(h:blk w b (scL S a n k) T):w.rangeAt b 6 [bO S.e,I .u32 (S.i:Int),bO S.r,I J S.d,sL a n k]:=blk.loadAt [I J S.f,I J S.lf,I J S.rn,I J S.lv,I J S.cr,I J S.ac] _ [] h
def frQ(S T:Sc):Bool:=(S.e==T.e)&&(S.r==T.r)&&((S.i:Int)==(T.i:Int))&&(S.d==T.d)&&decide (S.l=T.l)
def Ds(S T:Sc):(mkQ S T&&frQ S T)=true↔S=T:=by
 obtain⟨f,lf,rn,lv,cr,ac,e,i,r,d,l⟩:=S;obtain⟨f',p,u,s,c,b,h,j,t,g,l'⟩:=T;simp only[mkQ,frQ,Q3,beq_iff_eq,qK,Sc.mk.injEq];constructor
 .rintro⟨⟨h1,h2,h3,h4,h5,h6⟩,⟨⟨⟨h7,h8⟩,h9⟩,h10⟩,h11⟩;exact⟨h1,h2,h3,h4,h5,h6,h7,om,h8,h10,h11⟩
 .rintro⟨h1,h2,h3,h4,h5,h6,h7,h8,h9,h10,h11⟩;exact⟨⟨h1,h2,h3,h4,h5,h6⟩,⟨⟨⟨h7,h9⟩,by rw[h8]⟩,h10⟩,h11⟩
structure twS(w:World)(S T:Sc)(a:Option Addr)(n k:Nat)(a':Option Addr)(n' k':Nat)(W:World):Prop where
 p:blk W w.heap.size (scL S a n k) 55
 q:blk W (w.heap.size+1) (scL T a' n' k') 55
 b:Bl w W
def twS.below{S T:Sc}{a':Option Addr}{n' k':Nat}{W W':World}(h:twS w S T a n k a' n' k' W)(hb:Bl W W'):twS w S T a n k a' n' k' W':=⟨h.p.below hb,h.q.below hb,h.b.trans (hb.mono h.b.size)⟩
def twS.new(w:World)(S T:Sc)(a:Option Addr)(n k:Nat)(b:Option Addr)(d c:Nat):twS w S T a n k b d c ((w.alloc (.cells (scL S a n k).toArray 55)).alloc (.cells (scL T b d c).toArray 55)):=by
 refine⟨(blk.new w _ 55).alloc _,?_,Zw.alloc pQ _⟩;have:=blk.new (w.alloc (.cells (scL S a n k).toArray 55)) (scL T b d c) 55;simpa using this
def zo(w:World)(S T:Sc)(a:Option Addr)(n k:Nat)(c:Option Addr)(g f:Nat)(h1:iB w a n k S.l)(B:iB w c g f T.l):ce 136 #[aG (scL S a n k).toArray,aG (scL T c g f).toArray] w fun o w'=>bH o (S=T)/\Bl w w':=by
 have A:=aa (Ds S T);have L:ce 136 #[aG (scL S a n k).toArray,aG (scL T c g f).toArray] w fun o w'=>o=rT (bO (mkQ S T&&frQ S T))/\Bl w w':=by
  have u:=aa (twS.new w S T a n k c g f);obtain⟨y,x⟩:∃y,y=(w.alloc (.cells (scL S a n k).toArray 55)).alloc (.cells (scL T c g f).toArray 55):=⟨_,rfl⟩
  rw[<- x]at u;have E:Hid (∀W,twS w S T a n k c g f W->ce 191 #[frV S.e S.i S.r S.d a n k,frV T.e T.i T.r T.d c g f] W fun o w'=>o=rT (bO (frQ S T))/\Bl W w'):=fun W C=>lH W _ _ _ _ _ _ _ _ (h1.below C.b) _ _ _ _ _ _ _ _ (B.below C.b);clear h1 B A;have H:=fun w=>CQ w S T;have N:=uH;generalize frQ S T=M at*;obtain⟨m,D⟩:∃m,mkQ S T=m:=⟨_,rfl⟩
  rw[D]at H ⊢;clear D;go_enter func136,ntmps136;go_upto_region 1 with fail
  change Code.wp _ _ _ _ ((w.alloc (.cells (scL S a n k).toArray 55)).alloc (.cells (scL T c g f).toArray 55));rw[<- x];clear x;refine Qu (S:=fun X=>twS w S T a n k c g f X) kr ?_;have hS:twS w S T a n k c g f y.drew:=u.o.below (bW _ _).drew;clear u;refine wU 0 (aG (scL S a n k).toArray) rfl (Qw (by rfl) 55 (.tmp 2) rfl w.heap.size 0 rfl (scL S a n k) _ (fun X h=>h.p.load) underlying55 rfl (dY _ _ _ _)) hS ?_;simp only[Act.put,aA,aB,aC,aD,aE];refine wU 2 (aG (scL T c g f).toArray) rfl (Qw (by rfl) 55 (.tmp 3) rfl (w.heap.size+1) 0 rfl (scL T c g f) _ (fun X h=>h.q.load) underlying55 rfl (dY _ _ _ _)) hS ?_;simp only[aZ];refine al 1 fun K j=>?_;go_simp;refine(oc _ S a n k).mono ?_;rintro o O ⟨rfl,t⟩;go_wp2_with fail;refine j.out _ _ (hS.below t) (fun s=>?_);clear hS j K t;have hS:=s;clear s;refine al 3 fun K j=>?_;go_simp;refine(oc _ T c g f).mono ?_;rintro o P ⟨rfl,t⟩;go_wp2_with fail;refine j.out _ _ (hS.below t) (fun s=>?_);clear hS j K t;have hS:=s;clear s;refine tk 4 ?_;refine tk 5 ?_;cases m
  .refine tn 6 ?_;refine tn 7 ?_;refine tn 8 ?_;refine tn 9 ?_;refine tn 10 ?_;refine tk 11 ?_;refine tk 12 ?_;have v:=hS.b;refine Qs kr ?_ _;clear hS;go_wp2;go_ret;exact⟨rfl,v⟩
  .refine tk 6 ?_;refine tk 8 ?_;refine wU 7 (frV S.e S.i S.r S.d a n k) rfl (Qw (by rfl) 53 (.tmp 11) rfl w.heap.size 6 rfl [bO S.e,I .u32 (S.i:Int),bO S.r,I J S.d,sL a n k] _ (fun X h=>rS h.p) underlying53 rfl cE) hS ?_;simp only[aZ];refine wU 9 (frV T.e T.i T.r T.d c g f) rfl (Qw (by rfl) 53 (.tmp 13) rfl (w.heap.size+1) 6 rfl [bO T.e,I .u32 (T.i:Int),bO T.r,I J T.d,sL c g f] _ (fun X h=>rS h.q) underlying53 rfl cE) hS ?_;simp only[aZ];refine al 10 fun K j=>?_;rw[QW (by rfl)];go_simp;refine(E.o _ hS).mono ?_;rintro o Q ⟨rfl,t⟩;go_wp2_with fail;refine j.out _ _ (hS.below t) (fun s=>?_);clear hS j K t;have hS:=s;clear s;refine tk 11 ?_;refine tk 12 ?_;have v:=hS.b;refine Qs kr ?_ _;clear hS;go_wp2;go_ret;exact⟨pQ,v⟩
 refine L.mono ?_;rintro o w' ⟨rfl,G⟩;exact⟨⟨_,rfl,A.o⟩,G⟩
end
def Al(w:World)(S T:Sc)(a:Option Addr)(n k:Nat)(t:Option Addr)(h u:Nat)(h1:iB w a n k S.l)(v:iB w t h u T.l)(L:n<=1048576)(M:h<=1048576):ce 48 #[aG (scL S a n k).toArray,aG (scL T t h u).toArray] w fun o w'=>bH o (S=T)/\Bl w w':=by
 have c:=aa (twS.new w S T a n k t h u);obtain⟨B,A⟩:∃B,B=(w.alloc (.cells (scL S a n k).toArray 55)).alloc (.cells (scL T t h u).toArray 55):=⟨_,rfl⟩
 rw[<- A]at c;obtain⟨X,s⟩:∃X:Prop,Hid (X↔S=T):=⟨_,Iff.rfl⟩
 have N:ce 48 #[aG (scL S a n k).toArray,aG (scL T t h u).toArray] w fun o w'=>bH o X/\Bl w w':=by
  have G:Hid (∀W,twS w S T a n k t h u W->ce 102 #[frV S.e S.i S.r S.d a n k,frV T.e T.i T.r T.d t h u] W fun o w'=>bH o (S.e=T.e/\S.i=T.i/\S.r=T.r/\S.d=T.d/\S.l=T.l)/\Bl W w'):=fun W C=>E0 W _ _ _ _ _ _ _ _ (h1.below C.b) _ _ _ _ _ _ _ _ (v.below C.b) L M;clear h1 v;go_enter func48,ntmps48;go_upto_region 1 with fail
  change Code.wp _ _ _ _ ((w.alloc (.cells (scL S a n k).toArray 55)).alloc (.cells (scL T t h u).toArray 55));rw[<- A];clear A;have j:Hid (Bl w B):=c.o.b;have P:=c.o.p.cell 0 _ rfl;have Z:=c.o.q.cell 0 _ rfl;have Q:=c.o.p.cell 1 _ rfl;have y1:=c.o.q.cell 1 _ rfl;have R:=c.o.p.cell 2 _ rfl;have y2:=c.o.q.cell 2 _ rfl;have U:=c.o.p.cell 3 _ rfl;have y3:=c.o.q.cell 3 _ rfl;have Y:=c.o.p.cell 4 _ rfl;have y4:=c.o.q.cell 4 _ rfl;have x5:=c.o.p.cell 5 _ rfl;have y5:=c.o.q.cell 5 _ rfl;cases q0:(S.f==T.f)
  .have g:Hid (¬X):=fun x=>by have:=congrArg Sc.f (s.o.1 x);rw[this]at q0;simp at q0
   go_wp2;go_ret;exact⟨⟨false,rfl,fun e=>(by cases e),fun e=>Qj e g.o⟩,j.o⟩
  cases q1:(S.lf==T.lf)
  .have g:Hid (¬X):=fun x=>by have:=congrArg Sc.lf (s.o.1 x);rw[this]at q1;simp at q1
   go_wp2;go_ret;exact⟨⟨false,rfl,fun e=>(by cases e),fun e=>Qj e g.o⟩,j.o⟩
  cases q2:(S.rn==T.rn)
  .have g:Hid (¬X):=fun x=>by have:=congrArg Sc.rn (s.o.1 x);rw[this]at q2;simp at q2
   go_wp2;go_ret;exact⟨⟨false,rfl,fun e=>(by cases e),fun e=>Qj e g.o⟩,j.o⟩
  cases q3:(S.lv==T.lv)
  .have g:Hid (¬X):=fun x=>by have:=congrArg Sc.lv (s.o.1 x);rw[this]at q3;simp at q3
   go_wp2;go_ret;exact⟨⟨false,rfl,fun e=>(by cases e),fun e=>Qj e g.o⟩,j.o⟩
  cases q4:(S.cr==T.cr)
  .have g:Hid (¬X):=fun x=>by have:=congrArg Sc.cr (s.o.1 x);rw[this]at q4;simp at q4
   go_wp2;go_ret;exact⟨⟨false,rfl,fun e=>(by cases e),fun e=>Qj e g.o⟩,j.o⟩
  cases q5:(S.ac==T.ac)
  .have g:Hid (¬X):=fun x=>by have:=congrArg Sc.ac (s.o.1 x);rw[this]at q5;simp at q5
   go_wp2;go_ret;exact⟨⟨false,rfl,fun e=>(by cases e),fun e=>Qj e g.o⟩,j.o⟩
  have H:Hid (mkQ S T=true):=by show _=_;unfold mkQ;rw[q0,q1,q2,q3,q4,q5];rfl
  go_wp2_with(first|(refine an (by first|rfl|(simp[Region.wanted,yielded];done)) 53 _ rfl w.heap.size 6 rfl _ _ (rS c.o.p) underlying53 rfl cE ?_)|(refine an (by first|rfl|(simp[Region.wanted,yielded];done)) 53 _ rfl (w.heap.size+1) 6 rfl _ _ (rS c.o.q) underlying53 rfl cE ?_))
  refine(G.o _ c.o).mono ?_;rintro o O ⟨⟨b,rfl,y⟩,D⟩;have g:Hid (b=true↔X):=by
   show _↔_;rw[y,s.o,<- Ds,H.o];simp[frQ];constructor
   .rintro⟨h1,v,h3,h4,h5⟩;exact⟨⟨⟨⟨h1,h3⟩,om⟩,h4⟩,h5⟩
   .rintro⟨⟨⟨⟨h1,h3⟩,v⟩,h4⟩,h5⟩;exact⟨h1,om,h3,h4,h5⟩
  have E:Hid (Bl w O):=j.o.trans (D.mono j.o.size);clear y D;go_wp2;go_ret;exact⟨⟨b,rfl,g.o⟩,E.o⟩
 refine N.mono ?_;rintro o w' ⟨⟨b,rfl,y⟩,K⟩;exact⟨⟨b,rfl,y.trans s.o⟩,K⟩
def Ak(w:World)(S:Sc)(a:Option Addr)(n k:Nat)(y:n=S.l.length):ce 44 #[aG (scL S a n k).toArray] w fun o w'=>bH o (S=scZ)/\Bl w w':=by
 have g:Hid (blk (w.alloc (.cells (scL S a n k).toArray 55)) w.heap.size (scL S a n k) 55/\Bl w (w.alloc (.cells (scL S a n k).toArray 55))):=⟨blk.new w _ 55,Zw⟩
 obtain⟨t,s⟩:∃t,t=w.alloc (.cells (scL S a n k).toArray 55):=⟨_,rfl⟩
 rw[<- s]at g;have u:=aa y;clear y;obtain⟨X,j⟩:∃X:Prop,Hid (X↔S=scZ):=⟨_,Iff.rfl⟩
 have D:ce 44 #[aG (scL S a n k).toArray] w fun o w'=>bH o X/\Bl w w':=by
  go_enter func44,ntmps44;go_upto_region 1 with fail
  change Code.wp _ _ _ _ (w.alloc (.cells (scL S a n k).toArray 55));rw[<- s];clear s;have h:Hid (Bl w t):=g.o.2;have G:=g.o.1.cell 0 _ rfl;have H:=g.o.1.cell 1 _ rfl;have K:=g.o.1.cell 2 _ rfl;have L:=g.o.1.cell 3 _ rfl;have M:=g.o.1.cell 4 _ rfl;have x5:=g.o.1.cell 5 _ rfl;cases q0:(S.f==0)
  .have c:Hid (¬X):=fun x=>by have:=j.o.1 x;rw[this]at q0;simp at q0
   go_wp2;go_ret;exact⟨⟨false,rfl,fun e=>(by cases e),fun e=>Qj e c.o⟩,h.o⟩
  cases q1:(S.lf==0)
  .have c:Hid (¬X):=fun x=>by have:=j.o.1 x;rw[this]at q1;simp at q1
   go_wp2;go_ret;exact⟨⟨false,rfl,fun e=>(by cases e),fun e=>Qj e c.o⟩,h.o⟩
  cases q2:(S.rn==0)
  .have c:Hid (¬X):=fun x=>by have:=j.o.1 x;rw[this]at q2;simp at q2
   go_wp2;go_ret;exact⟨⟨false,rfl,fun e=>(by cases e),fun e=>Qj e c.o⟩,h.o⟩
  cases q3:(S.lv==0)
  .have c:Hid (¬X):=fun x=>by have:=j.o.1 x;rw[this]at q3;simp at q3
   go_wp2;go_ret;exact⟨⟨false,rfl,fun e=>(by cases e),fun e=>Qj e c.o⟩,h.o⟩
  cases q4:(S.cr==0)
  .have c:Hid (¬X):=fun x=>by have:=j.o.1 x;rw[this]at q4;simp at q4
   go_wp2;go_ret;exact⟨⟨false,rfl,fun e=>(by cases e),fun e=>Qj e c.o⟩,h.o⟩
  cases q5:(S.ac==0)
  .have c:Hid (¬X):=fun x=>by have:=j.o.1 x;rw[this]at q5;simp at q5
   go_wp2;go_ret;exact⟨⟨false,rfl,fun e=>(by cases e),fun e=>Qj e c.o⟩,h.o⟩
  go_wp2_with(refine an (by first|rfl|(simp[Region.wanted,yielded];done)) 53 _ rfl w.heap.size 6 rfl _ _ (rS g.o.1) underlying53 rfl cE ?_)
  refine(eE _ S.e S.i S.r S.d a n k).mono ?_;rintro o E ⟨⟨b,rfl,p⟩,v⟩;have c:Hid (b=true↔X):=by
   show _↔_;rw[p,j.o];have C:=u.o;simp only[beq_iff_eq]at q0 q1 q2 q3 q4 q5;clear g h j u G H K L M x5;obtain⟨f,lf,rn,lv,cr,ac,e,i,r,d,l⟩:=S;simp only[scZ,Sc.mk.injEq,zFr]at*;constructor
   .rintro⟨h1,h2,h3,h4,h5⟩;exact⟨q0,q1,q2,q3,q4,q5,h1,h2,h3,h4,List.length_eq_zero_iff.1 om⟩
   .rintro⟨-,-,-,-,-,-,h1,h2,h3,h4,h5⟩;exact⟨h1,h2,h3,h4,by rw[C,h5];rfl⟩
  have A:Hid (Bl w E):=h.o.trans (v.mono h.o.size);clear p v;go_wp2;go_ret;exact⟨⟨b,rfl,c.o⟩,A.o⟩
 refine D.mono ?_;rintro o w' ⟨⟨b,rfl,p⟩,B⟩;exact⟨⟨b,rfl,p.trans j.o⟩,B⟩
section
variable{C:Co}{N cu:Int}{ws:List Nat}
def ll(E:ByteArray)(k:Nat):lt (E.extract 0 k)=(lt E).take k:=by
 have h:E.extract 0 k=ag ((lt E).take k):=by rw[<- nP,o9]
 rw[h]
 exact jD _ fun x a=>by
  obtain⟨y,_,rfl⟩:=List.mem_map.1 (qF a);exact y.toNat_lt
def CD(e:Bool)(i:Nat)(r:Bool)(d:Int)(l:List Nat)(b:vB e i r d l.length=true)(hs:∀x∈l,x<256)(k:Nat)(h:k<(eP e i r d l.length l).size):goL ((lt (eP e i r d l.length l)).take k)/\(k+1=(eP e i r d l.length l).size->(scO ((lt (eP e i r d l.length l)).take k)).f=14):=by
 have n:0<=d/\d<=15/\(l.length:Int)=dl r d:=by
  unfold vB at b;simp only[Q3,qK,beq_iff_eq]at b;exact⟨b.1.1.2,b.1.2,b.2⟩
 have hd:d.toNat<=15/\(d.toNat:Int)=d:=om;have v:eP e i r d l.length l=ag (M.fV (aj e i r d.toNat l)++List.replicate 10 49):=by
  unfold eP;rw[QW b]
 have y:=cZ e i r d.toNat l
 have hA:∀x∈M.fV (aj e i r d.toNat l)++List.replicate 10 49,x=48\/x=49:=fun x a=>by
  rcases List.mem_append.1 a with a|a
  .exact M.FO _ y x a
  .exact .inr (List.eq_of_mem_replicate a)
 have j:lt (eP e i r d l.length l)=M.fV (aj e i r d.toNat l)++List.replicate 10 49:=by
  rw[v];exact jD _ fun x a=>by have:=hA x a;omega
 have G:(M.fV (aj e i r d.toNat l)).length<=990:=by
  have h1:=M.FN (aj e i r d.toNat l);have u:=dM e i r d.toNat l;have B:(aj e i r d.toNat l).length=(aK e i r d.toNat l).length+15:=by unfold aj;rw[QX,M.EI]
  have D:l.length<=8:=by have:=n.2.2;unfold dl at this;split at this<;>(try split at this)<;>omega
  split at u<;>omega
 obtain⟨g,t⟩:=Cx e i r d.toNat l hd.1 (by rw[hd.2];exact n.2.2);have H:(eP e i r d l.length l).size=(M.fV (aj e i r d.toNat l)).length+10:=by rw[<- aN,j];simp
 rw[j];generalize M.fV (aj e i r d.toNat l)=A at*;have s:(A++List.replicate 9 49)++[49]=A++List.replicate 10 49:=by rw[Q2];rfl
 have p:(A++List.replicate 10 49).take k=(A++List.replicate 9 49).take k:=by
  rw[<- s,Qb (by simp;omega)]
 refine⟨⟨fun c w=>hA c (qF w),by simp;omega,?_⟩,fun E=>?_⟩
 .rw[p];rw[<- List.take_append_drop k (A++List.replicate 9 49)]at g;exact((jH _ _ _).1 g).1
 .rw[p,QY (by simp;omega)];exact t
def pO{w:World}{s:Sl}(h:bj w C.ho s)(d:cH C)(c:wrP C.ho.bx){k:Nat}(b:k<(aq C).size):goL ((lt (aq C)).take k)/\(k+1=(aq C).size->(scO ((lt (aq C)).take k)).f=14):=by
 have a:=lu c;rw[jG C a]at b ⊢;exact CD _ _ _ _ _ (ly d c a) (h.small _ a) k b
def iK(N cu:Int)(ws:List Nat):Prop:=N=0/\ws=[]/\cu=0
structure snP(C:Co)(S:Sc)(N cu:Int)(ws:List Nat):Prop where
 n:N=((aq C).size:Int)
 w:ws=wl (lt (aq C))
 c0:0<=cu
 c1:cu<((aq C).size:Int)
 s:S=scO ((lt (aq C)).take cu.toNat)
structure gA(C:Co)(S:Sc)(N cu:Int)(ws:List Nat):Prop where
 c:cH C
 i:C.p≠1->iK N cu ws/\S=scZ
 h:C.p=1->C.tx=false->iK N cu ws/\okS S/\S.f≠1
 s:C.p=1->C.tx=true->snP C S N cu ws
def zN{S:Sc}(hc:cH C)(hp:C.p≠1):gA C S N cu ws↔iK N cu ws/\S=scZ:=⟨fun h=>h.i hp,fun h=>⟨hc,fun _=>h,fun e=>Qj e hp,fun e=>Qj e hp⟩⟩
def zO{S:Sc}(hc:cH C)(hp:C.p=1)(ht:C.tx=false):gA C S N cu ws↔iK N cu ws/\okS S/\S.f≠1:=⟨fun h=>h.h hp ht,fun h=>⟨hc,fun e=>Qj hp e,fun _ _=>h,fun _ e=>by rw[ht]at e;cases e⟩⟩
def zM{S:Sc}(hc:cH C)(hp:C.p=1)(ht:C.tx=true):gA C S N cu ws↔snP C S N cu ws:=⟨fun h=>h.s hp ht,fun h=>⟨hc,fun e=>Qj hp e,fun _ e=>(by rw[ht]at e;cases e),fun _ _=>h⟩⟩
end
set_option maxHeartbeats 8000000
structure opV(w:World)(C:Co)(S:Sc)(N cu:Int)(q:Os)(W:World):Prop where
 p:blk W w.heap.size (opL C S N cu q) 58
 b:Bl w W
def opV.below{w:World}{C:Co}{S:Sc}{N cu:Int}{q:Os}{W W':World}(h:opV w C S N cu q W)(hb:Bl W W'):opV w C S N cu q W':=⟨h.p.below hb,h.b.trans (hb.mono h.b.size)⟩
def opV.new(w:World)(C:Co)(S:Sc)(N cu:Int)(q:Os):opV w C S N cu q (w.alloc (.cells (opL C S N cu q).toArray 58)):=⟨blk.new w _ 58,Zw⟩
def GF(w:World)(C:Co)(S:Sc)(N f:Int)(ws:List Nat)(q:Os)(h:fY w C S ws q)(A:cH C)(hn:C.ho.le 1048576)(hs:S.l.length<=1048576)(hw:ws.length<=1048576)(hp:C.p=1)(ht:C.tx=true):ce 14 #[aG (opL C S N f q).toArray] w fun o w'=>bH o (snP C S N f ws)/\Bl w w':=by
 have E:=aa (opV.new w C S N f q);obtain⟨v0,a2⟩:∃v0,v0=w.alloc (.cells (opL C S N f q).toArray 58):=⟨_,rfl⟩
 rw[<- a2]at E;have HV:=aa (Gz v0 C q.s (h.h.below E.o.b) hn A);have P:=A.s.1 ⟨hp,ht⟩;have b2:q.s.n2<=8:=by have h1:=h.h.bx.len;have h2:=A.h.n2;omega
 have a5:Hid (∀V,Bl w V->ce 22 #[aG (coL C q.s).toArray] V fun o w'=>∃(e:Bool)(i:Nat)(r:Bool)(d:Int)(u:Option Addr)(m c:Nat)(l:Unit),o=rT (frV e i r d u m c)/\Bl V w'/\ce 21 #[frV e i r d u m c] w' fun o w2=>o=rT (.string (aq C))/\Bl w' w2):=fun V hV=>od V C q.s (h.h.below hV) b2 P;obtain⟨ko,kz⟩:=pN A P;have a4:Hid (∀k,k<(aq C).size->goL ((lt (aq C)).take k)):=fun k M=>(pO h.h A P M).1
 have a7:Hid (∀V,ce 20 #[.string (aq C)] V fun o w'=>∃u n cap,o=rT (pkV ((aq C).size:Int) u n cap)/\ah w' u n cap (wl (lt (aq C)))/\Bl V w'):=fun V=>(kv (aq C) V ko kz).mono (by
  rintro o w' ⟨u,cap,rfl,Q,q2⟩;rw[Dw]at Q
  exact⟨u,_,cap,rfl,Q.words (by rw[cD,aN]) (im _) (Q.cap (by rw[cD,aN])),q2⟩)
 have b8:Hid ((wl (lt (aq C))).length<=1048576):=by show _<=_;rw[cD,aN];omega
 have O:=aa h;have HS:=aa hs;have HW:=aa hw;have HP:=aa hp;have HT:=aa ht;have bi:Hid ((aq C).size<=4000):=kz;clear h A hn hs hw P b2 ko kz;go_enter func14,ntmps14;go_upto_region 1 with fail
 change Code.wp _ _ _ _ (w.alloc (.cells (opL C S N f q).toArray 58));rw[<- a2];clear a2;go_wp2_with(refine ZG 52 (bJ E.o.p) underlying52 (aV C q.s) ?_);refine HV.o.mono ?_;rintro o w1 ⟨rfl,ac⟩;have j:=aa (E.o.below ac);have y0:=j.o.p.cell 0 (I J C.p) rfl;have y6:=j.o.p.cell 6 (bO C.tx) rfl;have bf:=j.o.p.cell 32 (I J N) rfl;have bg:=j.o.p.cell 33 (sL q.aw q.nw q.kw) rfl;have a3:=j.o.p.cell 34 (I J f) rfl;rw[HP.o]at y0;rw[HT.o]at y6;clear ac HV E;go_upto_region 3 with fail
 go_cut [3] (fun x wx=>(∃b,x=bO b)/\wx=w1);case first=>
  cases Q:(N==0)
  .go_wp2_with fail;go_meet;case rel=>exact⟨⟨_,rfl⟩,rfl⟩
  cases q2:((q.nw:Int)==0)
  .go_wp2_with fail;go_meet;case rel=>exact⟨⟨_,rfl⟩,rfl⟩
  cases q3:(f==0);all_goals
   go_wp2_with fail;go_meet;case rel=>exact⟨⟨_,rfl⟩,rfl⟩
 case rest=>
  obtain⟨⟨b3,rfl⟩,rfl⟩:=hcut;go_wp2_with(refine ZG 52 (bJ j.o.p) underlying52 (aV C q.s) ?_);refine(a5.o _ j.o.b).mono ?_;rintro o w2 ⟨e,i,r,d,u,m,c,l,rfl,ad,hE⟩;have H2:=aa (j.o.below ad);have HE:=aa hE;clear ad hE a5 j y0 y6 bf bg a3;go_wp2_with fail;refine HE.o.mono ?_;rintro o w3 ⟨rfl,af⟩;have H3:=aa (H2.o.below af);clear af HE H2;go_upto_region 9 with fail
  refine Qu (S:=fun X=>opV w C S N f q X) kr ?_;have hS:opV w C S N f q w3.drew:=H3.o.below (bW _ _).drew;clear H3;refine tk 0 ?_;refine tk 2 ?_;refine wU 1 (pkV N q.aw q.nw q.kw) rfl (Qw (by rfl) 56 (.tmp 57) rfl w.heap.size 32 rfl [I J N,sL q.aw q.nw q.kw] _ (fun X h=>eC h.p) underlying56 rfl (eH _ _ _ _)) hS ?_;simp only[aZ];refine al 3 fun a0 H=>?_;go_simp;refine(a7.o _).mono ?_;rintro o w4 ⟨bc,n4,be,rfl,b4,ak⟩;go_wp2_with fail;refine H.out _ _ (hS.below ak) (fun K=>?_);have Z:=aa b4;clear hS H a0 ak b4 a7;have hS:=K;clear K;refine al 4 fun a0 H=>?_;go_simp;refine(Am w4 N _ q.aw bc q.nw q.kw n4 be ws _ (O.o.w.below hS.b) Z.o (by have:=O.o.w.len;have:=HW.o;omega) (by have:=Z.o.len;have:=b8.o;omega)).mono ?_;rintro o w5 ⟨⟨b5,rfl,h5⟩,am⟩;go_wp2_with fail;refine H.out _ _ (hS.below am) (fun K=>?_);have R:=aa h5;clear hS H a0 am h5 Z;have hS:=K;clear K;refine tk 5 ?_;refine tk 6 ?_;cases b5
  .have G:Hid (¬snP C S N f ws):=fun e=>by have:=R.o.2 ⟨e.n,e.w⟩;cases this
   refine tn 7 ?_;refine tn 8 ?_;refine tn 9 ?_;refine tk 10 ?_;refine tk 11 ?_;refine tn 12 ?_;refine tn 13 ?_;refine tn 14 ?_;refine tn 15 ?_;refine tn 16 ?_;refine tk 17 ?_;have L:=hS.b;refine Qs kr ?_ _;clear hS;go_wp2;go_ret;exact⟨⟨false,rfl,fun e=>(by cases e),fun e=>Qj e G.o⟩,L⟩
  refine tk 7 ?_;refine tk 8 ?_ (hy:=fun bb hW=>by(have y:=hW.p.cell 34 (I J f) rfl;go_simp;try rfl));cases g0:decide (f<0);case true=>
   have G:Hid (¬snP C S N f ws):=fun e=>by have:=e.c0;have:=qJ g0;omega
   refine tk 9 ?_;refine tk 10 ?_;refine tk 11 ?_;refine tn 12 ?_;refine tn 13 ?_;refine tn 14 ?_;refine tn 15 ?_;refine tn 16 ?_;refine tk 17 ?_;have L:=hS.b;refine Qs kr ?_ _;clear hS;go_wp2;go_ret;exact⟨⟨false,rfl,fun e=>(by cases e),fun e=>Qj e G.o⟩,L⟩
  have h0:0<=f:=by have:=of_decide_eq_false g0;omega
  refine tk 9 ?_;refine tk 10 ?_;refine tk 11 ?_;refine tk 12 ?_;refine tk 13 ?_ (hy:=fun bb hW=>by(have y:=hW.p.cell 34 (I J f) rfl;go_simp;try rfl));refine tk 14 ?_;refine tk 15 ?_;cases g1:decide (((aq C).size:Int)<=f);case true=>
   have G:Hid (¬snP C S N f ws):=fun e=>by have:=e.c1;have:=qJ g1;omega
   refine tk 16 ?_;refine tk 17 ?_;have L:=hS.b;refine Qs kr ?_ _;clear hS;go_wp2;go_ret;exact⟨⟨false,rfl,fun e=>(by cases e),fun e=>Qj e G.o⟩,L⟩
  have h1:f<((aq C).size:Int):=by have:=of_decide_eq_false g1;omega
  refine tk 16 ?_;refine tk 17 ?_;have T:=aa hS;refine Qs kr ?_ _;clear hS;have a6:=aa (R.o.1 rfl);clear R;obtain⟨k,rfl⟩:=Int.eq_ofNat_of_zero_le h0;have M:k<(aq C).size:=om;have bm:k<=(aq C).size:=Q5 M;have a3:=T.o.p.cell 34 (I J (k:Int)) rfl
  have b7:Hid (∀V,ce 47 #[.string ((aq C).extract 0 k)] V fun o w'=>∃a n kk c,o=rT (.tuple #[aG (scL (scO ((lt (aq C)).take k)) a n kk).toArray,I J c])/\iB w' a n kk (scO ((lt (aq C)).take k)).l/\Bl V w'):=fun V=>by
   rw[<- ll];exact uB V ((aq C).extract 0 k) (by rw[show(((aq C).extract 0 k).data.toList.map (·.toNat))=lt ((aq C).extract 0 k)from rfl,ll];exact a4.o k M)
  have b6:Hid ((scO ((lt (aq C)).take k)).l.length<=8):=by
   have:=((a4.o k M).at ((lt (aq C)).take k).length).1;rw[List.take_length]at this;exact this.2.2.2.2.2.1
  have HR:Hid (snP C S N (k:Int) ws↔scO ((lt (aq C)).take k)=S):=⟨fun e=>by have:=e.s;rw[Int.toNat_natCast]at this;exact this.symm,fun e=>⟨a6.o.1,a6.o.2,Int.natCast_nonneg _,om,by rw[Int.toNat_natCast];exact e.symm⟩⟩
  generalize scO ((lt (aq C)).take k)=U at*;clear g0 g1 h0 h1;go_wp2_with fail;refine(b7.o _).mono ?_;rintro o g ⟨v,B,k7,c7,rfl,b1,ao⟩;have W:Hid (opV w C S N (k:Int) q g/\iB g v B k7 U.l):=⟨T.o.below ao,b1⟩
  have Y:Hid (blk (g.alloc (.cells z11.toArray 55)) g.heap.size z11 55):=blk.new g _ 55;clear b1 ao T a3;go_upto_region 12 with(refine Zs 55 (scL U v B k7).toArray (Y.o.there 0 11 (nR _)) dh (fO _ _ _ _) ?_;generalize a9:World.setCells (g.alloc _) g.heap.size 0 _=D;have a8:Hid (_=D):=a9;clear a9)
  have e8:=a8.o;have a1:Bl g D:=by rw[<- e8];exact sW (nR _) _ _ Zw
  have t:Hid (opV w C S N (k:Int) q D/\blk D g.heap.size (scL U v B k7) 55/\iB D v B k7 U.l):=⟨W.o.1.below a1,by rw[<- e8];exact Y.o.put [] z11 [] (scL U v B k7) rfl,W.o.2.below a1⟩
  clear e8 a1 a8 W Y;generalize g.heap.size=bk at*;go_wp2_with(first|(refine ZG 55 t.o.2.1.load underlying55 (dY _ _ _ _) ?_)|(refine ZG 55 (dy t.o.1.p) underlying55 (dY _ _ _ _) ?_))
  refine(Al D U S v B k7 q.a q.n q.k t.o.2.2 (O.o.d.below t.o.1.b) (by have:=t.o.2.2.len;have:=b6.o;omega) (by have:=O.o.d.len;have:=HS.o;omega)).mono ?_;rintro o w9 ⟨⟨b9,rfl,h9⟩,ap⟩;have H9:Hid (Bl w w9/\(b9=true↔snP C S N (k:Int) ws)):=⟨t.o.1.b.trans (ap.mono t.o.1.b.size),h9.trans HR.o.symm⟩
  clear h9 ap t;go_wp2;go_ret;exact⟨⟨b9,rfl,H9.o.2⟩,H9.o.1⟩
def Cs(w:World)(C:Co)(S:Sc)(N c:Int)(ws:List Nat)(q:Os)(h:fY w C S ws q)(j:¬cH C)(i:C.ho.le 1048576):ce 14 #[aG (opL C S N c q).toArray] w fun o w'=>o=rT (bO false)/\Bl w w':=by
 have a:=aa (opV.new w C S N c q);obtain⟨e,d⟩:∃e,e=w.alloc (.cells (opL C S N c q).toArray 58):=⟨_,rfl⟩
 rw[<- d]at a;have f:=aa (Hh e C q.s (h.h.below a.o.b) i j);clear h j i;go_enter func14,ntmps14;go_upto_region 1 with fail
 change Code.wp _ _ _ _ (w.alloc (.cells (opL C S N c q).toArray 58));rw[<- d];clear d;go_wp2_with(refine ZG 52 (bJ a.o.p) underlying52 (aV C q.s) ?_);refine f.o.mono ?_;rintro o l ⟨rfl,g⟩;have k:=aa (a.o.below g);clear g f a;go_wp2;go_ret;exact⟨rfl,k.o.b⟩
def DE(w:World)(C:Co)(S:Sc)(N c:Int)(ws:List Nat)(q:Os)(h:fY w C S ws q)(R:cH C)(Q:C.ho.le 1048576)(hs:S.l.length<=1048576)(Y:Prop)(O:(C.p=1/\C.tx=false/\(Y↔okS S/\S.f≠1))\/(C.p≠1/\(Y↔S=scZ))):ce 14 #[aG (opL C S N c q).toArray] w fun o w'=>bH o (iK N c ws/\Y)/\Bl w w':=by
 have r:=aa (opV.new w C S N c q);obtain⟨G,E⟩:∃G,G=w.alloc (.cells (opL C S N c q).toArray 58):=⟨_,rfl⟩
 rw[<- E]at r;have K:=aa (Gz G C q.s (h.h.below r.o.b) Q R);have B:=aa h;have Z:=aa hs;have D:=aa O;clear h R Q O hs;go_enter func14,ntmps14;go_upto_region 1 with fail
 change Code.wp _ _ _ _ (w.alloc (.cells (opL C S N c q).toArray 58));rw[<- E];clear E;go_wp2_with(refine ZG 52 (bJ r.o.p) underlying52 (aV C q.s) ?_);refine K.o.mono ?_;rintro o w1 ⟨rfl,P⟩;have g:=aa (r.o.below P);have U:=g.o.p.cell 0 (I J C.p) rfl;have X:=g.o.p.cell 6 (bO C.tx) rfl;have W:=g.o.p.cell 21 (I J S.f) rfl;have a0:=g.o.p.cell 32 (I J N) rfl;have a1:=g.o.p.cell 33 (sL q.aw q.nw q.kw) rfl;have a2:=g.o.p.cell 34 (I J c) rfl;have L:=aa B.o.w.len
 have A:Hid (∀b:Bool,b=((N==0)&&(((q.nw:Int)==0)&&(c==0)))->(b=true↔iK N c ws)):=fun b e=>by
  rw[e];simp only[Q3,beq_iff_eq];constructor
  .rintro⟨h1,h2,h3⟩;exact⟨h1,List.length_eq_zero_iff.1 (by have:=L.o;omega),h3⟩
  .rintro⟨h1,h2,h3⟩;exact⟨h1,by have:=L.o;rw[h2]at this;simp at this;omega,h3⟩
 clear P K r;go_upto_region 3 with fail
 go_cut [3] (fun x wx=>(∃b:Bool,x=bO b/\Hid (b=true↔iK N c ws))/\wx=w1);case first=>
  cases q1:(N==0)
  .have HF:Hid (false=true↔iK N c ws):=A.o _ (by rw[q1];rfl);go_wp2_with fail;go_meet;case rel=>exact⟨⟨_,rfl,HF⟩,rfl⟩
  cases q2:((q.nw:Int)==0)
  .have HF:Hid (false=true↔iK N c ws):=A.o _ (by rw[q1,q2];rfl);go_wp2_with fail;go_meet;case rel=>exact⟨⟨_,rfl,HF⟩,rfl⟩
  cases q3:(c==0)
  .have HF:Hid (false=true↔iK N c ws):=A.o _ (by rw[q1,q2,q3];rfl);go_wp2_with fail;go_meet;case rel=>exact⟨⟨_,rfl,HF⟩,rfl⟩
  .have HF:Hid (true=true↔iK N c ws):=A.o _ (by rw[q1,q2,q3];rfl);go_wp2_with fail;go_meet;case rel=>exact⟨⟨_,rfl,⟨fun _=>HF.o.1 (by trivial),fun _=>rfl⟩⟩,rfl⟩
 case rest=>
  obtain⟨⟨M,rfl,y⟩,rfl⟩:=hcut;have j:Hid (∀(b:Bool)(w':World),(b=true↔iK N c ws/\Y)->Bl w w'->(∃x:Bool,Ending.returned (bO b)=rT (bO x)/\(x=true↔iK N c ws/\Y))/\Bl w w'):=fun b w' e i=>⟨⟨b,rfl,e⟩,i⟩
  rcases D.o with⟨u,T,v⟩|⟨u,v⟩
  .have HQ:=aa v;rw[u]at U;rw[T]at X;clear u T v D;cases M
   .go_wp2_with fail;go_ret;exact j.o false _ ⟨fun e=>(by cases e),fun e=>y.o.2 e.1⟩ g.o.b
   .go_wp2_with (refine an (by first|rfl|(simp[Region.wanted,yielded];done)) 55 _ rfl w.heap.size 21 rfl _ _ (dy g.o.p) underlying55 rfl (dY _ _ _ _) ?_);refine(kF _ S q.a q.n q.k B.o.d.len (by have:=B.o.d.len;have:=Z.o;omega)).mono ?_;rintro o H ⟨⟨b,rfl,i⟩,t⟩;have H2:Hid (opV w C S N c q H/\(b=true↔okS S)):=⟨g.o.below t,i⟩
    clear i t g U X W a0 a1 a2;have W:=H2.o.1.p.cell 21 (I J S.f) rfl;cases b
    .go_wp2_with fail;go_ret;exact j.o false _ ⟨fun e=>(by cases e),fun e=>H2.o.2.2 (HQ.o.1 e.2).1⟩ H2.o.1.b
    .cases qf:(S.f !=1)
     .have HF:Hid (S.f=1):=by show _=_;simpa using qf
      go_wp2_with fail;go_ret;exact j.o false _ ⟨fun e=>(by cases e),fun e=>Qj HF.o (HQ.o.1 e.2).2⟩ H2.o.1.b
     .have HF:Hid (S.f≠1):=by show _≠_;simpa using qf
      go_wp2_with fail;go_ret;exact j.o true _ ⟨fun _=>⟨y.o.1 (by trivial),HQ.o.2 ⟨H2.o.2.1 (by trivial),HF.o⟩⟩,fun _=>rfl⟩ H2.o.1.b
  .have HQ:=aa v;have np:(C.p !=1)=true:=by simpa using u
   clear u v D;cases M
   .go_wp2_with fail;go_ret;exact j.o false _ ⟨fun e=>(by cases e),fun e=>y.o.2 e.1⟩ g.o.b
   .go_wp2_with (refine an (by first|rfl|(simp[Region.wanted,yielded];done)) 55 _ rfl w.heap.size 21 rfl _ _ (dy g.o.p) underlying55 rfl (dY _ _ _ _) ?_);refine(Ak _ S q.a q.n q.k B.o.d.len).mono ?_;rintro o H ⟨⟨b,rfl,i⟩,t⟩;have H2:Hid (Bl w H/\(b=true↔iK N c ws/\Y)):=⟨g.o.b.trans (t.mono g.o.b.size),⟨fun e=>⟨y.o.1 (by trivial),HQ.o.2 (i.1 e)⟩,fun e=>i.2 (HQ.o.1 e.2)⟩⟩
    clear i t;go_wp2_with fail;go_ret;exact j.o b _ H2.o.2 H2.o.1
def EY(w:World)(C:Co)(S:Sc)(N f:Int)(ws:List Nat)(q:Os)(h:fY w C S ws q)(j:C.ho.le 1048576)(hs:S.l.length<=1048576)(k:ws.length<=1048576):ce 14 #[aG (opL C S N f q).toArray] w fun o w'=>bH o (gA C S N f ws)/\Bl w w':=by
 by_cases a:cH C
 .by_cases g:C.p=1
  .cases ht:C.tx
   .refine (DE w C S N f ws q h a j hs _ (.inl ⟨g,ht,Iff.rfl⟩)).mono ?_;rintro o w' ⟨⟨b,rfl,i⟩,d⟩;exact⟨⟨b,rfl,i.trans (zO a g ht).symm⟩,d⟩
   .refine (GF w C S N f ws q h a j hs k g ht).mono ?_;rintro o w' ⟨⟨b,rfl,i⟩,d⟩;exact⟨⟨b,rfl,i.trans (zM a g ht).symm⟩,d⟩
  .refine (DE w C S N f ws q h a j hs _ (.inr ⟨g,Iff.rfl⟩)).mono ?_;rintro o w' ⟨⟨b,rfl,i⟩,d⟩;exact⟨⟨b,rfl,i.trans (zN a g).symm⟩,d⟩
 .refine (Cs w C S N f ws q h a j).mono ?_;rintro o w' ⟨rfl,d⟩;exact⟨⟨false,rfl,fun e=>(by cases e),fun e=>Qj e.c a⟩,d⟩
def olZ(C:Co)(S:Sc)(cu:Int)(ws:List Nat):Int:=if C.p=2/\C.wk=false then 0 else if C.p=1 then(if C.tx=true then(lev ws cu.toNat:Int)else if S.f=12/\S.ac=S.cr then 0 else 1)else 1
def Cr(w:World)(C:Co)(S:Sc)(N d:Int)(ws:List Nat)(q:Os)(h:fY w C S ws q)(A:ws.length<=1048576)(y:C.p=1->C.tx=true->0<=d/\d<64*(ws.length:Int)):ce 75 #[aG (opL C S N d q).toArray] w fun o w'=>o=rT (I J (olZ C S d ws))/\Bl w w':=by
 have c:=aa (opV.new w C S N d q);obtain⟨t,s⟩:∃t,t=w.alloc (.cells (opL C S N d q).toArray 58):=⟨_,rfl⟩
 rw[<- s]at c;have v:=aa h;have K:=aa A;have H:=aa y;obtain⟨Z,l⟩:∃Z:Int,Hid (olZ C S d ws=Z):=⟨_,rfl⟩
 rw[show olZ C S d ws=Z from l.o];clear h A y;have B:=c.o.p.cell 0 (I J C.p) rfl;have D:=c.o.p.cell 3 (bO C.wk) rfl;have E:=c.o.p.cell 6 (bO C.tx) rfl;have O:=c.o.p.cell 21 (I J S.f) rfl;have P:=c.o.p.cell 25 (I J S.cr) rfl;have Q:=c.o.p.cell 26 (I J S.ac) rfl;have R:=c.o.p.cell 34 (I J d) rfl;go_enter func75,ntmps75;go_upto_region 1 with fail
 change Code.wp _ _ _ _ (w.alloc (.cells (opL C S N d q).toArray 58));rw[<- s];clear s;by_cases g:C.p=2
 .rw[g]at B;have r:¬C.p=1:=om;cases hk:C.wk
  .have a:Z=0:=by rw[<- l.o];unfold olZ;rw[QW ⟨g,hk⟩]
   rw[hk]at D;clear g r hk;go_wp2;go_ret;exact⟨aL a.symm,c.o.b⟩
  .have a:Z=1:=by rw[<- l.o];unfold olZ;rw[QV (by rw[hk];simp),QV r]
   rw[hk]at D;clear g r hk;go_wp2;go_ret;exact⟨aL a.symm,c.o.b⟩
 have x:(C.p==2)=false:=by simpa using g
 by_cases j:C.p=1
 .rw[j]at B;cases ht:C.tx
  .rw[ht]at E;have a:Z=if S.f=12/\S.ac=S.cr then 0 else 1:=by rw[<- l.o];unfold olZ;rw[QV (fun e=>g e.1),QW j,QV (by rw[ht];simp)]
   have n:=aa a;clear g j ht x a;cases q1:(S.f==12)
   .have a:Z=1:=by rw[n.o,QV];rintro⟨e,_⟩;rw[e]at q1;simp at q1
    have i:=aa a;clear a;go_wp2;go_ret;exact⟨aL i.o.symm,c.o.b⟩
   cases q2:(S.ac==S.cr)
   .have a:Z=1:=by rw[n.o,QV];rintro⟨_,e⟩;rw[e]at q2;simp at q2
    have i:=aa a;clear a;go_wp2;go_ret;exact⟨aL i.o.symm,c.o.b⟩
   .have a:Z=0:=by rw[n.o,QW ⟨by simpa using q1,by simpa using q2⟩]
    have i:=aa a;clear a;go_wp2;go_ret;exact⟨aL i.o.symm,c.o.b⟩
  .rw[ht]at E;have a:Z=(lev ws d.toNat:Int):=by rw[<- l.o];unfold olZ;rw[QV (fun e=>g e.1),QW j,QW ht]
   obtain⟨L,c1⟩:=H.o j ht;have i:=aa a;clear g j ht x a;obtain⟨k,rfl⟩:=Int.eq_ofNat_of_zero_le L;have u:=aa v.o.w.len;go_wp2_with(refine ZG 56 (eC c.o.p) underlying56 (eH _ _ _ _) ?_);refine(dc (F:=71) _ N q.aw q.nw q.kw ws (v.o.w.below c.o.b) k (by have:=u.o;omega) (by have:=u.o;have:=K.o;omega)).mono ?_;rintro o M ⟨rfl,rfl⟩;have G:Hid (Bl w (t.alloc (pkC N q.aw q.nw q.kw 56))):=c.o.b.alloc c.o.b.size _;go_wp2;go_ret;refine⟨aL ?_,G.o⟩;rw[i.o];simp
 .have a:Z=1:=by rw[<- l.o];unfold olZ;rw[QV (fun e=>g e.1),QV j]
  have h1:(C.p==1)=false:=by simpa using j
  have i:=aa a;clear g j a;go_wp2;go_ret;exact⟨aL i.o.symm,c.o.b⟩
def yv(o:List Nat)(ho:∀x∈o,M.isL x):unL (wl o) o.length=o:=by
 refine List.ext_getElem (kV _ _) fun j h1 b=>?_;have a:j<o.length:=b;have e:(unL (wl o) o.length)[j]=48+lev (wl o) j:=by simp[unL]
 rw[e,pF o ho j (by rw[cD];omega),dif_pos a];rcases ho o[j] (ql a)with e|e<;>omega
def FX{C:Co}{S:Sc}{N b:Int}{ws:List Nat}(h:gA C S N b ws):∃E:ByteArray,unZ N ws=E/\okT E 4000=true/\E.size<=4000/\N=(E.size:Int)/\ws=wl (lt E):=by
 have nil:iK N b ws->∃E:ByteArray,unZ N ws=E/\okT E 4000=true/\E.size<=4000/\N=(E.size:Int)/\ws=wl (lt E):=by
  rintro⟨rfl,rfl,-⟩;exact⟨⟨#[]⟩,by kernel_rfl,by kernel_rfl,by decide,rfl,by kernel_rfl⟩
 by_cases a:C.p=1
 .cases ht:C.tx
  .exact nil (h.h a ht).1
  .have hs:=h.s a ht;obtain⟨e,f⟩:=pN h.c (h.c.s.1 ⟨a,ht⟩);refine⟨aq C,?_,e,f,hs.n,hs.w⟩;have d:=pE e;rw[hs.n,hs.w];unfold unZ;rw[QW (by rw[<- aN];exact ub _ d (by rw[aN];exact f)),Int.toNat_natCast,<- aN (aq C),yv _ d,o9]
 .exact nil (h.i a).1
def EC(T:Co)(S:Sc)(N cu:Int)(o:Os)(j:Int):Value.int .u8 j∉opL T S N cu o:=by simp[opL,coL,scL,pk3]
def BW(T:Co)(S:Sc)(N cu:Int)(o:Os)(j:Int):Value.int .u64 j∉opL T S N cu o:=by simp[opL,coL,scL,pk3]
def ah.farL{W V:World}{a:Option Addr}{n cap:Nat}{l:List Nat}(h:ah W a n cap l){x:Nat}{L:List Value}{r:TypeId}(c:blk W x L r)(d:∀j,Value.int .u64 j∉L)(f:∀q,q≠x->V.heap[q]?=W.heap[q]?):ah V a n cap l:=by
 refine⟨h.len,h.cap,h.small,fun hne=>?_⟩;obtain⟨g,off,e,i⟩:=h.cells hne;refine⟨g,off,e,fun j p=>?_⟩;have b:=i j p;have k:g≠x:=by
  rintro rfl;refine d (l[j]:Int) ?_;unfold blk at c;simp only[World.cell?,c]at b;simp at b;exact List.mem_of_getElem? b
 exact(eV (f g k) _).trans b
section
variable{w:World}{B T0 T1 T2 P:Nat}{T:Co}{S:Sc}{N cu:Int}{ws:List Nat}{o:Os}{W:World}
end
section
variable{w:World}{C:Co}{S:Sc}{N cu:Int}{q:Os}{P:Option Nat}{K:Nat->Prop}{A:World->Prop}{W:World}
end
end Go.Proofs.YtbbffcolnddcdaaGreatDoor
