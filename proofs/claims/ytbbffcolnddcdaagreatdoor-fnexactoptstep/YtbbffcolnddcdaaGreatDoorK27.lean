import Derived.Test.YtbbffcolnddcdaaGreatDoorK26
import Derived.StillTailTactics
import Derived.Deep.RegionHeld3
import Derived.Deep.DeepCutAuto
import Derived.Deep.RegionWith
namespace Go.Proofs.YtbbffcolnddcdaaGreatDoor
open Go.Proofs.Tryz
open Option renaming none->nn,some->sQ
set_option maxRecDepth 20000
open Go.RowKit
set_option linter.all false
set_option maxHeartbeats 16000000
section
variable{w0 W:World}{G:Lg}{H:Ho}{f1 f3 nm:Nat}{hs:Nat->Hd}{D:DataW Unit}
def lhU(G:Lg)(B:Nat):Prop:=G.P<B/\G.mb<B/\G.gf<B/\G.gb<B/\G.gr<B/\G.gq<B/\G.u.heap.size<=B
def lh.lts(h:lh w0 G H f1 f3 hs nm D W):lhU G W.heap.size:=⟨h.p.lt,h.m.lt,h.hi.1,h.x.hi,h.hi.2.1,h.hi.2.2,h.k.1⟩
def lh.put(h:lh w0 G H f1 f3 hs nm D W){B x:Nat}(hB:lhU G B)(K:B<=x)(o:Nat)(l:List Value):lh w0 G H f1 f3 hs nm D (W.setCells x o l):=by
 obtain⟨n,s,t,u,c,e,C⟩:=hB;have E:=h.d.lo;have a:∀q,q<B->(W.setCells x o l).heap[q]?=W.heap[q]?:=fun q i=>sO _ q om _ _ _;have g:Bl w0 (W.setCells x o l):=sW om o l h.b;have j:(W.setCells x o l).heap.size=W.heap.size:=sZ ..;refine⟨h.p.kept (a _ n),h.f.same (a _ t),h.x.at0 (a _ u) g,h.r.keep (a _ c),h.rz.up (a _ c),h.q.keep (a _ e),h.qz.up (a _ e),?_,g,by rw[j];exact h.hi,h.d,h.bd,h.k.to (Nat.le_of_eq j.symm) fun q i _=>sO _ q (hne i (fS om)) _ _ _⟩;obtain⟨w,v,y,A⟩:=h.m;exact⟨w,v,(a _ s).trans y,A⟩
def Ii{a:Int}(hw:(Lit.int .i64 a).wf=true):keyOf Tryz.prog 3 (.int .i64 a)=sQ (.int .i64 a):=Maps.keyOf_int_mk underlying3 hw
def E9:Maps.Keyed Tryz.prog 3:=Maps.int_keyed underlying3
def tz(h:lh w0 G H f1 f3 hs nm D W)(k:Nat)(hk:k<H.bx.length)(b:R8)(eb:H.bx[k]=b)(a:Option Addr)(m c:Nat)(eh:hs k=(a,m,c))(hw:(Lit.int .i64 b.y).wf=true):Calls Tryz.prog 268 #[.pointer (be G.P),.int .i64 (k:Int)] W fun o w'=>o= .returned (.agg #[.int .i64 b.x,.int .i64 b.y,.int .i64 b.z,.bool b.e,.int .u32 (b.i:Int),.bool b.r,.int .i64 b.d,.slice a m c])/\lh w0 G (dK H k) f1 f3 (fun j=>if j=k then(nn,0,0)else hs j) nm (D.del (.int .i64 b.y)) w'/\(∀q,q≠G.gb->q≠G.mb->q<W.heap.size->w'.heap[q]?=W.heap[q]?)/\W.heap.size<=w'.heap.size:=by
 have y5:=h.p.cell 5 _ rfl;have y6:=h.p.cell 6 _ rfl;have hr:=h.x.rng k hk;rw[eb,eh]at hr;have am:=h.x.len;have ap:k<G.n2:=om;have ao:=h.bd.nk;have aw:=h.bd.m2;have Q:=hI h.lts;have HL:=hI h;have a7:=hI hk;have HW:=hI (Ii hw);clear h hk eb eh hw am;obtain⟨u,f,A,n,s,t,l,bL⟩:=b;simp only[]at HW;have S:=hI hr;clear hr;have N:Hid (Bl W (W.alloc (.cells [.int .i64 0,.int .i64 0,.int .i64 0,.bool false,.int .u32 0,.bool false,.int .i64 0,.slice nn 0 0].toArray 114))):=Zw;have Z:=hI (HL.o.below N.o);have a1:Hid (blk (W.alloc (.cells [.int .i64 0,.int .i64 0,.int .i64 0,.bool false,.int .u32 0,.bool false,.int .i64 0,.slice nn 0 0].toArray 114)) W.heap.size [.int .i64 0,.int .i64 0,.int .i64 0,.bool false,.int .u32 0,.bool false,.int .i64 0,.slice nn 0 0] 114):=blk.new W _ 114;have y5:=Z.o.p.cell 5 _ rfl;have S:=hI (cY S.o N.o Q.o.2.2.2.1);have R:Hid (Below (W.alloc (.cells [.int .i64 0,.int .i64 0,.int .i64 0,.bool false,.int .u32 0,.bool false,.int .i64 0,.slice nn 0 0].toArray 114)).heap.size (W.alloc (.cells [.int .i64 0,.int .i64 0,.int .i64 0,.bool false,.int .u32 0,.bool false,.int .i64 0,.slice nn 0 0].toArray 114)) ((W.alloc (.cells [.int .i64 0,.int .i64 0,.int .i64 0,.bool false,.int .u32 0,.bool false,.int .i64 0,.slice nn 0 0].toArray 114)).alloc (.cells [.int .i64 u,.int .i64 f,.int .i64 A,.bool n,.int .u32 (s:Int),.bool t,.int .i64 l,.slice a m c].toArray 114))):=Zw;have K:Hid (blk ((W.alloc (.cells [.int .i64 0,.int .i64 0,.int .i64 0,.bool false,.int .u32 0,.bool false,.int .i64 0,.slice nn 0 0].toArray 114)).alloc (.cells [.int .i64 u,.int .i64 f,.int .i64 A,.bool n,.int .u32 (s:Int),.bool t,.int .i64 l,.slice a m c].toArray 114)) (W.heap.size+1) [.int .i64 u,.int .i64 f,.int .i64 A,.bool n,.int .u32 (s:Int),.bool t,.int .i64 l,.slice a m c] 114):=by
  have:=blk.new (W.alloc (.cells [.int .i64 0,.int .i64 0,.int .i64 0,.bool false,.int .u32 0,.bool false,.int .i64 0,.slice nn 0 0].toArray 114)) [.int .i64 u,.int .i64 f,.int .i64 A,.bool n,.int .u32 (s:Int),.bool t,.int .i64 l,.slice a m c] 114;have e:(W.alloc (.cells [.int .i64 0,.int .i64 0,.int .i64 0,.bool false,.int .u32 0,.bool false,.int .i64 0,.slice nn 0 0].toArray 114)).heap.size=W.heap.size+1:=pQ;rw[e]at this;exact this
 have O:=hI (a1.o.below R.o);have E:=hI (Z.o.below R.o);have C:=hI (N.o.trans (R.o.mono N.o.size));clear y6;go_enter func268,ntmps268
 go_wp2_with(refine Qk (P:=Tryz.prog) rfl 114 _ rfl G.gb (k*8) rfl [.int .i64 u,.int .i64 f,.int .i64 A,.bool n,.int .u32 (s:Int),.bool t,.int .i64 l,.slice a m c] _ S.o underlying114 rfl cK ?_)
 clear S R Z a1 N;clear y5;refine wp_region_still_tail 6 kr kr ?_;change wpStill Tryz.prog _ (World.drew ((W.alloc (.cells [.int .i64 0,.int .i64 0,.int .i64 0,.bool false,.int .u32 0,.bool false,.int .i64 0,.slice nn 0 0].toArray 114)).alloc (.cells [.int .i64 u,.int .i64 f,.int .i64 A,.bool n,.int .u32 (s:Int),.bool t,.int .i64 l,.slice a m c].toArray 114))) (fun a'=>wpList Tryz.prog _ _ _ a' (World.drew ((W.alloc (.cells [.int .i64 0,.int .i64 0,.int .i64 0,.bool false,.int .u32 0,.bool false,.int .i64 0,.slice nn 0 0].toArray 114)).alloc (.cells [.int .i64 u,.int .i64 f,.int .i64 A,.bool n,.int .u32 (s:Int),.bool t,.int .i64 l,.slice a m c].toArray 114)))) _ _;have C:=hI C.o.drew;have O:=hI (O.o.below (bW _ _).drew);have K:=hI (K.o.below (bW _ _).drew);have E:=hI (E.o.below (bW _ _).drew);generalize World.drew ((W.alloc (.cells [.int .i64 0,.int .i64 0,.int .i64 0,.bool false,.int .u32 0,.bool false,.int .i64 0,.slice nn 0 0].toArray 114)).alloc (.cells [.int .i64 u,.int .i64 f,.int .i64 A,.bool n,.int .u32 (s:Int),.bool t,.int .i64 l,.slice a m c].toArray 114))=w2 at*;have y6:=E.o.p.cell 6 _ rfl;have y1:=K.o.cell 1 _ rfl;simp only[List.take_succ_cons,List.take_zero,List.drop_succ_cons,List.drop_zero];repeat still_step
 refine wpStill_nil ?_;refine wpList_delete_own _ rfl _ _ 226 3 rfl 3 E9 underlying226 _ G.mb nm D rfl E.o.m _ _ rfl HW.o ?_;intro B a4 a5;have M:=a5.grown;have Y:=hI (E.o.tags M a4);have a8:Hid (∀q,q≠G.mb->q<W.heap.size->B.heap[q]?=W.heap[q]?):=fun q h1 X=>(M.block q (nL X C.o.size) (by simpa using h1)).trans (C.o.block q X);have ac:=hI (O.o.kept (M.block _ O.o.lt (by have:=Q.o.2.1;simp;omega)));have a6:=hI (K.o.kept (M.block _ K.o.lt (by have:=Q.o.2.1;simp;omega)));have ak:=hI (nT C.o.size M.size);have y5:=Y.o.p.cell 5 _ rfl
 have ad:Hid (B.there G.gb (k*8) 8):=fun j hj=>by
  obtain⟨⟨v,hv⟩,hf⟩:=Y.o.x.row (k*8+j) om;exact⟨by rw[hv];rfl,hf⟩
 clear a4 a5 M C O K E y6 y1 HW;have a9:Hid (∀g,World.setCells B G.gb (k*8) [.int .i64 0,.int .i64 0,.int .i64 0,.bool false,.int .u32 0,.bool false,.int .i64 0,.slice nn 0 0]=g->lh w0 G (dK H k) f1 f3 (fun j=>if j=k then(nn,0,0)else hs j) nm (D.del (.int .i64 f)) g/\blk g W.heap.size [.int .i64 0,.int .i64 0,.int .i64 0,.bool false,.int .u32 0,.bool false,.int .i64 0,.slice nn 0 0] 114/\blk g (W.heap.size+1) [.int .i64 u,.int .i64 f,.int .i64 A,.bool n,.int .u32 (s:Int),.bool t,.int .i64 l,.slice a m c] 114/\(∀q,q≠G.gb->g.heap[q]?=B.heap[q]?)/\g.heap.size=B.heap.size):=fun g e4=>by
  have a0:∀q,q≠G.gb->g.heap[q]?=B.heap[q]?:=fun q hq=>by rw[<- e4];exact sO _ q hq _ _ _
  have hu:=Q.o.2.2.2.1;refine⟨by rw[<- e4];exact Y.o.free k a7.o,ac.o.kept (a0 _ om),a6.o.kept (a0 _ om),a0,by rw[<- e4];exact sZ ..⟩
 go_wp2_with(first|(refine Qo (P:=Tryz.prog) rfl 114 _ _ rfl G.gb (k*8) [.int .i64 0,.int .i64 0,.int .i64 0,.bool false,.int .u32 0,.bool false,.int .i64 0,.slice nn 0 0].toArray rfl rfl ad.o cK (mS _ _ _ _ _ _ _ _ _ _) ?_;generalize a2:World.setCells B G.gb (k*8) _=g;have L:Hid (lh w0 G (dK H k) f1 f3 (fun j=>if j=k then(nn,0,0)else hs j) nm (D.del (.int .i64 f)) g/\blk g W.heap.size [.int .i64 0,.int .i64 0,.int .i64 0,.bool false,.int .u32 0,.bool false,.int .i64 0,.slice nn 0 0] 114/\blk g (W.heap.size+1) [.int .i64 u,.int .i64 f,.int .i64 A,.bool n,.int .u32 (s:Int),.bool t,.int .i64 l,.slice a m c] 114/\(∀q,q≠G.gb->g.heap[q]?=B.heap[q]?)/\g.heap.size=B.heap.size):=a9.o _ a2;clear a2)|(refine Qk (P:=Tryz.prog) rfl 114 _ rfl (W.heap.size+1) 0 rfl [.int .i64 u,.int .i64 f,.int .i64 A,.bool n,.int .u32 (s:Int),.bool t,.int .i64 l,.slice a m c] _ L.o.2.2.1.load underlying114 rfl cK ?_)|(refine Qo (P:=Tryz.prog) rfl 114 _ _ rfl W.heap.size 0 [.int .i64 u,.int .i64 f,.int .i64 A,.bool n,.int .u32 (s:Int),.bool t,.int .i64 l,.slice a m c].toArray rfl rfl (L.o.2.1.there 0 8 pQ) cK (mS _ _ _ _ _ _ _ _ _ _) ?_;generalize a3:World.setCells g W.heap.size 0 _=w9;have af:Hid (_=w9):=a3;clear a3))
 have U:=af.o;have hF:blk w9 W.heap.size [.int .i64 u,.int .i64 f,.int .i64 A,.bool n,.int .u32 (s:Int),.bool t,.int .i64 l,.slice a m c] 114:=by
  rw[<- U];have:=blk.put [] [.int .i64 0,.int .i64 0,.int .i64 0,.bool false,.int .u32 0,.bool false,.int .i64 0,.slice nn 0 0] [] [.int .i64 u,.int .i64 f,.int .i64 A,.bool n,.int .u32 (s:Int),.bool t,.int .i64 l,.slice a m c] (w:=g) (b:=W.heap.size) (T:=114) (by simpa using L.o.2.1) rfl;simpa using this
 have hL:=Qt (P:=Tryz.prog) w9 W.heap.size 0 114 _ _ hF.load underlying114 rfl cK;refine bC results268 hL ?_;refine⟨rfl,?_,fun q h1 X h3=>?_,?_⟩
 .rw[<- U];exact L.o.1.put Q.o (nR _) 0 _
 .rw[<- U,sO _ q om _ _ _,L.o.2.2.2.1 q h1];exact a8.o q X h3
 .rw[<- U,sZ,L.o.2.2.2.2];exact ak.o
end
open Go.Value renaming int->I,slice->sL,bool->bO,pointer->pT,agg->aG
open Go.IntKind renaming i64->J
open Go.Ending renaming returned->rT
open Go.Proofs.Tryz renaming prog->Tp
section
variable{H:Ho}{k:Nat}{b:R8}
def CM(x y z:Int)(e:Bool)(i:Nat)(r:Bool)(d:Int)(ao:Option Addr)(m c:Nat):∀w:World,(Instr.field 114 (aG #[I J x,I J y,I J z,bO e,I .u32 (i:Int),bO r,I J d,sL ao m c]) 1).run Tp w= .ok (I J y) w:=fun _=>by kernel_rfl
def tX(f:k<H.bx.length)(c:wI H.bx=k)(a:H.bx[k]=b):bz H true=pH (dK H k) ⟨1,b.y,0,b.e,b.i,b.r,b.d,b.l⟩:=by
 subst c;subst a;unfold bz;rw[dif_pos f,QW rfl]
def tY(d:k<H.bx.length)(c:wI H.bx=k)(a:H.bx[k]=b)(e:b.x=3):bz H false=pH (dK H k) (ev3 6 b.y 0):=by
 subst c;subst a;unfold bz;rw[dif_pos d,QV pQ,QW e]
def tW(d:k<H.bx.length)(c:wI H.bx=k)(a:H.bx[k]=b)(e:b.x=2):bz H false=ir H k 1:=by
 subst c;subst a;unfold bz;rw[dif_pos d,QV pQ,QV om]
def da.wf{st:Int}{bx:List R8}(h:da st bx):∀j(hj:j<bx.length),(Lit.int .i64 bx[j].y).wf=true:=fun j hj=>by
 have:=h.1 j hj;unfold cV at this;split at this
 .rw[this.1];exact ju om om
 .exact ju om om
end
def dB(C:Co)(b:Int):Co:=if stZ C.te C.re=b then C else{C with ho:=pH C.ho ⟨10,stZ C.te C.re,0,false,0,false,0,[]⟩}
def yC{w0:World}{M:Nat}{G:Lg}{C:Co}{a c:Nat}{hs:Nat->Hd}{d:Nat}{D:DataW Unit}{W:World}(h:mc w0 M G C a c hs d D W)(b:Int):ce 356 #[ap M,I J b] W fun o w'=>o=rT (.tuple #[])/\mc w0 M G (dB C b) a c hs d D w':=by
 have f:Hid (ce 248 #[ap M] W fun o w'=>o=rT (I J (stZ C.te C.re))/\mc w0 M G C a c hs d D w'/\Bl W w'):=nQ h;have l:Hid (∀X,mc w0 M G C a c hs d D X->ce 245 #[ap G.P,aG #[I J 10,I J (stZ C.te C.re),I J 0,bO false,I .u32 0,bO false,I J 0,sL none 0 0]] X fun o w'=>o=rT (.tuple #[])/\mc w0 M G {C with ho:=pH C.ho ⟨10,stZ C.te C.re,0,false,0,false,0,[]⟩} a c hs d D w'):=fun X r=>r.post 10 (stZ C.te C.re);have n:Hid (dB C b=if stZ C.te C.re=b then C else{C with ho:=pH C.ho ⟨10,stZ C.te C.re,0,false,0,false,0,[]⟩}):=rfl;clear h;generalize stZ C.te C.re=z at*;by_cases e:z=b
 .subst e;have i:Hid (dB C z=C):=by have:=n.o;rw[QW rfl]at this;exact this
  go_enter func356,ntmps356;go_wp2_with fail;refine f.o.mono ?_;rintro o k ⟨rfl,h1,j⟩;have g:Hid (mc w0 M G C a c hs d D k):=h1;clear h1 j f;go_wp2_with fail;refine bN ?_
  exact⟨rfl,by rw[i.o];exact g.o⟩
 .have d1:(z==b)=false:=by simpa using e
  have t:(z !=b)=true:=by simpa using e
  have i:Hid (dB C b={C with ho:=pH C.ho ⟨10,z,0,false,0,false,0,[]⟩}):=by have:=n.o;rw[QV e]at this;exact this
  go_enter func356,ntmps356;go_wp2_with fail;refine f.o.mono ?_;rintro o k ⟨rfl,h1,j⟩;have g:Hid (mc w0 M G C a c hs d D k):=h1;have u:=h1.m.cell 0 (ap G.P) rfl;clear h1 j f;go_wp2_with fail;refine(l.o _ g.o).mono ?_;rintro o s ⟨rfl,p⟩;have H2:Hid (mc w0 M G {C with ho:=pH C.ho ⟨10,z,0,false,0,false,0,[]⟩} a c hs d D s):=p;clear p l;go_wp2_with fail;refine bN ?_
  exact⟨rfl,by rw[i.o];exact H2.o⟩
def nt(w:World)(b:Bool):ce 246 #[bO b] w fun o w'=>o=rT (I .u64 (if b then 1 else 0))/\w=w':=by
 cases b
 .go_enter func246,ntmps246;go_wp2;go_ret;exact⟨rfl,rfl⟩
 .go_enter func246,ntmps246;go_wp2;go_ret;exact⟨rfl,rfl⟩
section
variable{w0 W:World}{M f1 f3 nm:Nat}{G:Lg}{C:Co}{hs:Nat->Hd}{D:DataW Unit}
def xC(h:mc w0 M G C f1 f3 hs nm D W):ce 250 #[ap M] W fun o w'=>o=rT (.tuple #[])/\mc w0 M G {C with te:=256} f1 f3 hs nm D w':=by
 have a:Hid (mc w0 M G {C with te:=256} f1 f3 hs nm D (W.setCell ⟨M,1,nn⟩ (I J 256))):=h.set 1 (I J 256) rfl rfl;have b:=h.m.cell 1 (I J C.te) rfl;have f1:=h.m.free 1;clear h;go_enter func250,ntmps250;go_wp2_with fail;refine bN ?_
 exact⟨rfl,a.o⟩
def aR(C:Co)(tx:Bool)(n:Int):Co:=if tx then{C with te:=if 256<=C.te+n then 256 else C.te+n}else{C with re:=min (C.re+n) 255}
def Db(h:mc w0 M G C f1 f3 hs nm D W)(tx:Bool)(n:Int)(c:0<=n/\n<=8)(e:0<=C.te/\C.te<=256)(d:0<=C.re/\C.re<=255):ce 218 #[ap M,bO tx,I J n] W fun o w'=>o=rT (.tuple #[])/\mc w0 M G (aR C tx n) f1 f3 hs nm D w':=by
 have r:=h.m.cell 1 (I J C.te) rfl;have s:=h.m.cell 2 (I J C.re) rfl;have l:=h.m.free 1;have p:=h.m.free 2;cases tx
 .have HA:Hid (aR C false n={C with re:=min (C.re+n) 255}):=rfl;have b:Hid (mc w0 M G {C with re:=min (C.re+n) 255} f1 f3 hs nm D (W.setCell ⟨M,2,nn⟩ (I J (min (C.re+n) 255)))):=h.set 2 (I J (min (C.re+n) 255)) rfl rfl;have j:IntKind.i64.wrap (C.re+n)=C.re+n:=by rw[QC];omega
  generalize C.re=re at*;clear h e d c;go_enter func218,ntmps218;go_wp2_with fail;refine bN ?_
  exact⟨rfl,by rw[HA.o];exact b.o⟩
 .have h1:mc w0 M G {C with te:=C.te+n} f1 f3 hs nm D (W.setCell ⟨M,1,nn⟩ (I J (C.te+n))):=h.set 1 (I J (C.te+n)) rfl rfl;have j:IntKind.i64.wrap (C.te+n)=C.te+n:=by rw[QC];omega
  by_cases a:256<=C.te+n
  .have HA:Hid (aR C true n={C with te:=256}):=by show aR C true n=_;unfold aR;rw[QW rfl,QW a]
   have g:Hid (ce 250 #[ap M] (W.setCell ⟨M,1,nn⟩ (I J (C.te+n))) fun o w'=>o=rT (.tuple #[])/\mc w0 M G {C with te:=256} f1 f3 hs nm D w'):=xC (C:={C with te:=C.te+n}) h1;have i:decide (256<=C.te+n)=true:=by simpa using a
   clear h e d c h1;generalize C.te=te at*;go_enter func218,ntmps218;go_wp2_with fail;refine g.o.mono ?_;rintro o k ⟨rfl,f⟩;have H2:Hid (mc w0 M G {C with te:=256} f1 f3 hs nm D k):=f;clear f;go_wp2_with fail;refine bN ?_
   exact⟨rfl,by rw[HA.o];exact H2.o⟩
  .have HA:Hid (aR C true n={C with te:=C.te+n}):=by show aR C true n=_;unfold aR;rw[QW rfl,QV a]
   have b:Hid (mc w0 M G {C with te:=C.te+n} f1 f3 hs nm D (W.setCell ⟨M,1,nn⟩ (I J (C.te+n)))):=h1;have i:decide (256<=C.te+n)=false:=by simpa using a
   clear h e d c h1;generalize C.te=te at*;go_enter func218,ntmps218;go_wp2_with fail;refine bN ?_
   exact⟨rfl,by rw[HA.o];exact b.o⟩
def fwZ(tx ow:Bool)(p k:Int):Int:=if tx&&(ow||k==6)then 0 else if tx||p==2 then 8 else 1
def kU(h:mc w0 M G C f1 f3 hs nm D W)(k:Int):ce 249 #[ap M,I J k] W fun o w'=>o=rT (I J (fwZ C.tx C.ow C.p k))/\W=w':=by
 have e:=h.m.cell 3 (I J C.p) rfl;have f:=h.m.cell 8 (bO C.ow) rfl;have g:=h.m.cell 9 (bO C.tx) rfl;clear h;unfold fwZ;generalize C.tx=tx at*;generalize C.ow=ow at*;generalize C.p=p at*;obtain⟨d,b⟩:∃q,(k==6)=q:=⟨_,rfl⟩
 obtain⟨c,a⟩:∃q,(p==2)=q:=⟨_,rfl⟩
 rw[b,a];cases tx<;>cases ow<;>cases d<;>cases c;all_goals
  go_enter func249,ntmps249;go_wp2_with fail;go_ret;exact⟨rfl,rfl⟩
end
section
variable{w0 W:World}{G:Lg}{f1 f3 nm M:Nat}{hs:Nat->Hd}{D:DataW Unit}{C:Co}
def tV{H:Ho}(h:lh w0 G H f1 f3 hs nm D W)(a0:Bool)(b1:∀j(hj:j<H.bx.length),(Lit.int .i64 H.bx[j].y).wf=true):ce 247 #[ap G.P,bO a0] W fun o w'=>o=rT (.tuple #[])/\(∃b4 D',lh w0 G (bz H a0) f1 f3 b4 nm D' w')/\(∀q,q≠G.P->q≠G.gq->q≠G.gb->q≠G.mb->q<W.heap.size->w'.heap[q]?=W.heap[q]?):=by
 have am:=hI (jg W G.P _ G.n2 G.kb H.bx (h.p.cell 5 _ rfl) (h.x.is h.bd.nk) (by have:=h.bd.m2;omega));have HL:=hI h;have b2:=hI b1;clear h b1;go_enter func247,ntmps247;go_wp2_with fail;refine am.o.mono ?_;rintro o w5 ⟨z,rfl,hz,ad⟩;have a:=hI (HL.o.below ad);have g:=hI ad;have hR:=hz.ix;clear am HL hz ad;rcases hR with⟨rfl,b3⟩|⟨rfl,s⟩
 .have HT:Hid (bz H a0=H):=jf b3;go_wp2_with fail;refine bN ?_
  exact⟨rfl,⟨hs,D,by rw[HT.o];exact a.o⟩,fun q _ _ _ _ h=>g.o.block q h⟩
 .have hon:=jQ s;generalize ek:wI H.bx=k at*;have a8:=hI ek;clear ek;obtain⟨b,n⟩:∃b,H.bx[k]=b:=⟨_,rfl⟩
  obtain⟨f,m,c,eh⟩:∃f m c,hs k=(f,m,c):=⟨_,_,_,rfl⟩
  have U:=hI (tz a.o k s b n f m c eh (by rw[<- n];exact b2.o k s));have ak:Hid (iB G.u f m c b.l/\b.l.length<=1048576):=by
   have h1:=a.o.x.old k s (nZ _);have Z:=a.o.x.sm k s;rw[n,eh]at h1;rw[n]at Z;exact⟨a.o.d.wu _ _ _ _ h1,Z⟩
  have aw:Hid (w5.cell? ⟨G.gb,k*8,nn⟩=sQ (I J b.x)):=by
   have:=a.o.x.rng k s 0 _ rfl;rw[n]at this;exact this
  have b6:=(a.o.x.row (k*8) (by have:=a.o.x.len;omega)).2;have y5:=a.o.p.cell 5 _ rfl;have b8:k<G.n2:=by have:=a.o.x.len;omega
  have b5:=a.o.bd.nk;have b9:=a.o.bd.m2;have a7:=hI (qB s n);have T:=hI s;rw[n]at hon;clear n eh;cases a0
  .rcases hon with e0|e0
   .have HT:=hI (tW T.o a8.o a7.o.2 e0);have y0:=aw.o;rw[e0]at y0;go_wp2_with fail;refine bN ?_
    exact⟨rfl,⟨hs,D,by rw[HT.o];exact a.o.state k T.o 1⟩,fun q _ _ h3 _ h5=>(Ql w5 ⟨G.gb,k*8,nn⟩ q _ h3).trans (g.o.block q h5)⟩
   .have HT:=hI (tY T.o a8.o a7.o.2 e0);have y0:=aw.o;rw[e0]at y0;go_wp2_with fail;refine U.o.mono ?_;rintro o t ⟨rfl,Q,N,S⟩;have E:=hI (qB N S);clear N S;have K:=hI (Q.post (ev3 6 b.y 0) nn 0 0 (jA _) (nZ _));clear Q U;have b7:=CM 3 b.y b.z b.e b.i b.r b.d f m c;go_wp2_with fail;refine K.o.mono ?_;rintro o w7 ⟨rfl,R,O,_⟩;have a9:=hI O;clear O;have ac:=hI R;clear R K;go_wp2_with fail;refine bN ?_
    exact⟨rfl,⟨_,_,by rw[HT.o];exact ac.o⟩,fun q a1 a2 a3 a4 a5=>(a9.o q a1 a2 (by have:=E.o.2;have:=g.o.size;omega)).trans ((E.o.1 q a3 a4 (by have:=g.o.size;omega)).trans (g.o.block q a5))⟩
  .have HT:=hI (tX T.o a8.o a7.o.2);obtain⟨X,L,Y,w,A,B,v,bL⟩:=b;go_wp2_with fail;refine U.o.mono ?_;rintro o t ⟨rfl,Q,N,S⟩;have E:=hI (qB N S);clear N S;have af:Bl t (t.alloc (.cells [I J X,I J L,I J Y,bO w,I .u32 (A:Int),bO B,I J v,sL f m c].toArray 114)):=Zw;have K:=hI ((Q.below af).post ⟨1,L,0,w,A,B,v,bL⟩ f m c ak.o.1 ak.o.2);have ao:Hid (blk (t.alloc (.cells [I J X,I J L,I J Y,bO w,I .u32 (A:Int),bO B,I J v,sL f m c].toArray 114)) t.heap.size [I J X,I J L,I J Y,bO w,I .u32 (A:Int),bO B,I J v,sL f m c] 114):=blk.new t _ 114;have y1:=ao.o.cell 1 _ rfl;have a6:=hI af
   clear Q af U;go_wp2_with(refine Zi 53 [bO w,I .u32 (A:Int),bO B,I J v,sL f m c] (blk.loadAt [I J X,I J L,I J Y] [bO w,I .u32 (A:Int),bO B,I J v,sL f m c] [] ao.o) underlying53 cE ?_)
   refine K.o.mono ?_;rintro o w7 ⟨rfl,R,O,_⟩;have a9:Hid (∀q,q≠G.P->q≠G.gq->q<t.heap.size->w7.heap[q]?=t.heap[q]?):=fun q h1 Z h3=>(O q h1 Z (nL h3 a6.o.size)).trans (a6.o.block q h3);clear O a6;have ac:=hI R;clear R K;go_wp2_with fail;refine bN ?_
   exact⟨rfl,⟨_,_,by rw[HT.o];exact ac.o⟩,fun q a1 a2 a3 a4 a5=>(a9.o q a1 a2 (by have:=E.o.2;have:=g.o.size;omega)).trans ((E.o.1 q a3 a4 (by have:=g.o.size;omega)).trans (g.o.block q a5))⟩
def mc.release(h:mc w0 M G C f1 f3 hs nm D W)(c:Bool)(f:∀j(g:j<C.ho.bx.length),(Lit.int .i64 C.ho.bx[j].y).wf=true):ce 247 #[ap G.P,bO c] W fun o w'=>o=rT (.tuple #[])/\∃b a,mc w0 M G {C with ho:=bz C.ho c} f1 f3 b nm a w':=by
 refine(tV h.h c f).mono ?_;rintro o w' ⟨rfl,⟨b,a,h1⟩,d⟩;exact⟨rfl,b,a,h.m.kept (d M h.o.1 h.o.2.2.2.2.2.1 h.o.2.2.2.1 h.o.2.1 h.m.lt),h1,h.o,h.e⟩
def mc.post2(h:mc w0 M G C f1 f3 hs nm D W)(k a b:Int):ce 245 #[ap G.P,aG #[I J k,I J a,I J b,bO false,I .u32 0,bO false,I J 0,sL nn 0 0]] W fun o w'=>o=rT (.tuple #[])/\mc w0 M G {C with ho:=pH C.ho (ev3 k a b)} f1 f3 hs nm D w':=by
 refine(h.h.post (ev3 k a b) nn 0 0 (jA _) (nZ _)).mono ?_;rintro o w' ⟨rfl,h1,c,d⟩;exact⟨rfl,h.m.kept (c M h.o.1 h.o.2.2.2.2.2.1 h.m.lt),h1,h.o,h.e⟩
end
def ar{P:Prop}(h:P):Hid P:=h
section
variable{w0:World}{M:Nat}{G:Lg}{f1 f3 nm:Nat}{C:Co}{W:World}
def mx(w0:World)(M:Nat)(G:Lg)(f1 f3 nm:Nat)(C:Co)(W:World):Prop:=∃hs D,mc w0 M G C f1 f3 hs nm D W
def mx.m(h:mx w0 M G f1 f3 nm C W):blk W M (mcS G C) 184:=by obtain⟨_,_,h⟩:=h;exact h.m
def mx.below(h:mx w0 M G f1 f3 nm C W){W':World}(a:Bl W W'):mx w0 M G f1 f3 nm C W':=by obtain⟨_,_,h⟩:=h;exact⟨_,_,h.below a⟩
def mx.set(h:mx w0 M G f1 f3 nm C W)(k:Nat)(v:Value)(a:Co)(e:(mcS G C).set k v=mcS G a)(b:a.ho=C.ho):mx w0 M G f1 f3 nm a (W.setCell ⟨M,k,nn⟩ v):=by obtain⟨_,_,h⟩:=h;exact⟨_,_,h.set k v e b⟩
def mx.post(h:mx w0 M G f1 f3 nm C W)(k a b:Int):ce 245 #[ap G.P,aG #[I J k,I J a,I J b,bO false,I .u32 0,bO false,I J 0,sL nn 0 0]] W fun o w'=>o=rT (.tuple #[])/\mx w0 M G f1 f3 nm {C with ho:=pH C.ho (ev3 k a b)} w':=by
 obtain⟨_,_,h⟩:=h;exact(h.post2 k a b).mono fun o w' ⟨h1,c⟩=>⟨h1,_,_,c⟩
def mx.add(h:mx w0 M G f1 f3 nm C W)(b:Bool)(n:Int)(c:0<=n/\n<=8)(e:0<=C.te/\C.te<=256)(d:0<=C.re/\C.re<=255):ce 218 #[ap M,bO b,I J n] W fun o w'=>o=rT (.tuple #[])/\mx w0 M G f1 f3 nm (aR C b n) w':=by
 obtain⟨_,_,h⟩:=h;exact(Db h b n c e d).mono fun o w' ⟨h1,a⟩=>⟨h1,_,_,a⟩
def mx.state(h:mx w0 M G f1 f3 nm C W):ce 248 #[ap M] W fun o w'=>o=rT (I J (stZ C.te C.re))/\mx w0 M G f1 f3 nm C w'/\Bl W w':=by
 obtain⟨_,_,h⟩:=h;exact(nQ h).mono fun o w' ⟨h1,a,b⟩=>⟨h1,⟨_,_,a⟩,b⟩
def mx.release(h:mx w0 M G f1 f3 nm C W)(a:Bool)(e:∀j(f:j<C.ho.bx.length),(Lit.int .i64 C.ho.bx[j].y).wf=true):ce 247 #[ap G.P,bO a] W fun o w'=>o=rT (.tuple #[])/\mx w0 M G f1 f3 nm {C with ho:=bz C.ho a} w':=by
 obtain⟨_,_,h⟩:=h;exact(h.release a e).mono fun o w' ⟨h1,d,b,c⟩=>⟨h1,d,b,c⟩
def dR(C:Co)(k:Int):Ho:=bz (pH C.ho (ev3 8 k (if C.tx then 1 else 0))) false
def CJ(C:Co):Bool:=stZ C.te C.re==1
def jJ(C:Co)(k:Int):Bool:=CJ C&&C.tx&&(k==5)
def eM(C:Co)(k:Int):Co:={C with wk:=CJ C,ow:=jJ C k,ho:=dR C k}
def ba(C:Co)(k:Int):Co:={aR (eM C k) C.tx (fwZ C.tx (jJ C k) C.p k)with p:=2,ct:=0,lv:=0,ov:=false}
def Fj(a b:Bool)(p k:Int):0<=fwZ a b p k/\fwZ a b p k<=8:=by unfold fwZ;split<;>(try split)<;>omega
def eqB(x y:Int):∃b:Bool,(x==y)=b/\(x !=y)= !b/\Hid (b=true↔x=y):=⟨_,rfl,rfl,by show _↔_;simp⟩
def mx.fault(h:mx w0 M G f1 f3 nm C W)(k:Int)(Y:0<=C.te/\C.te<=256)(U:0<=C.re/\C.re<=255)(Z:∀j(hj:j<C.ho.bx.length),(Lit.int .i64 C.ho.bx[j].y).wf=true):ce 217 #[ap M,I J k] W fun o w'=>o=rT (.tuple #[])/\mx w0 M G f1 f3 nm (ba C k) w':=by
 obtain⟨c,r⟩:∃c:Int,c=if C.tx then 1 else 0:=⟨_,rfl⟩
 have H:Hid (bz (pH C.ho (ev3 8 k c)) false=dR C k):=by show _=dR C k;unfold dR;rw[r]
 have K:Hid (∀X,ce 246 #[bO C.tx] X fun o w'=>o=rT (I .u64 c)/\X=w'):=fun X=>by rw[r];exact nt X C.tx
 have a2:IntKind.i64.wrap c=c:=by rw[r];generalize C.tx=q;cases q<;>decide
 have H0:=hI h;have N:=ar ((h.below (bW _ _).drew).post 8 k c);have O:Hid (∀X,mx w0 M G f1 f3 nm {C with ho:=pH C.ho (ev3 8 k c)} X->ce 247 #[ap G.P,bO false] X fun o w'=>o=rT (.tuple #[])/\mx w0 M G f1 f3 nm {C with ho:=dR C k} w'):=fun X e=>by rw[<- H.o];exact e.release false Z
 have Q:Hid (∀X,mx w0 M G f1 f3 nm {C with ho:=dR C k} X->ce 248 #[ap M] X fun o w'=>o=rT (I J (stZ C.te C.re))/\mx w0 M G f1 f3 nm {C with ho:=dR C k} w'):=fun X e=>e.state.mono fun o w' ⟨h1,d,_⟩=>⟨h1,d⟩
 have u:Hid (∀X,mx w0 M G f1 f3 nm (eM C k) X->ce 249 #[ap M,I J k] X fun o w'=>o=rT (I J (fwZ C.tx (jJ C k) C.p k))/\X=w'):=fun X e=>by obtain⟨_,_,e⟩:=e;exact kU e k
 have l:Hid (∀X,mx w0 M G f1 f3 nm (eM C k) X->ce 218 #[ap M,bO C.tx,I J (fwZ C.tx (jJ C k) C.p k)] X fun o w'=>o=rT (.tuple #[])/\mx w0 M G f1 f3 nm (aR (eM C k) C.tx (fwZ C.tx (jJ C k) C.p k)) w'):=fun X e=>e.add C.tx _ (Fj _ _ _ _) Y U;obtain⟨wk,S⟩:∃b,(stZ C.te C.re==1)=b:=⟨_,rfl⟩
 obtain⟨tx,x⟩:∃b,C.tx=b:=⟨_,rfl⟩
 obtain⟨k5,R,_,_⟩:=eqB k 5;have L:Hid (eM C k={ {C with ho:=dR C k}with wk:=wk,ow:=wk&&tx&&k5}):=by show _=_;unfold eM jJ CJ;rw[S,x,R]
 have a1:=ar x;generalize stZ C.te C.re=z at*;have f:=h.m.cell 9 (bO C.tx) rfl;have B:=h.m.cell 0 (ap G.P) rfl;clear h Y U Z r H x;go_enter func217,ntmps217;go_upto_region 0 with fail
 go_cut [] (fun i=>Hid (mx w0 M G f1 f3 nm {C with ho:=pH C.ho (ev3 8 k c)} i));case first=>
  go_region_with (first|(go_at_call 246;refine(K.o _).mono ?_;rintro o w1 ⟨rfl,rfl⟩)|(go_at_call 245;refine N.o.mono ?_;rintro o w1 ⟨rfl,h1⟩;have g:=ar h1;clear h1))
  all_goals(
   go_wp2_with fail;go_meet
   case rel=>exact g.o)
 case rest=>
 have g:=hcut;clear hcut f B H0 N K;have B:=g.o.m.cell 0 (ap G.P) rfl;go_wp2_with fail;refine(O.o _ g.o).mono ?_;rintro o w1 ⟨rfl,d⟩;have H2:=ar d;clear d g O B;go_wp2_with fail;refine(Q.o _ H2.o).mono ?_;rintro o w2 ⟨rfl,d⟩;have E:=ar d;have D:=d.m.cell 6 (bO C.wk) rfl;have z6:=d.m.free 6;clear d H2 Q;have a:Hid (mx w0 M G f1 f3 nm { {C with ho:=dR C k}with wk:=wk} (World.setCell w2 ⟨M,6,nn⟩ (bO wk))):=E.o.set 6 (bO wk) _ rfl rfl;go_upto_region 3 with fail
 generalize World.setCell w2 ⟨M,6,nn⟩ (bO wk)=w3 at*;clear D z6 E;have D:=a.o.m.cell 6 (bO wk) rfl;have y8:=a.o.m.cell 8 (bO C.ow) rfl;have z8:=a.o.m.free 8;have f:=a.o.m.cell 9 (bO C.tx) rfl;rw[a1.o]at f;go_cut [] (fun i=>Hid (mx w0 M G f1 f3 nm (eM C k) i));case first=>
  cases wk<;>cases tx<;>cases k5<;>(
   go_wp2_with fail;go_meet
   case rel=>rw[L.o];exact a.o.set 8 _ _ rfl rfl)
 case rest=>
 have s:=hcut;clear hcut D y8 z8 f a L R S;have f:=s.o.m.cell 9 (bO C.tx) rfl;have t:=ar (s.o.below (bW _ _).drew);obtain⟨n,w⟩:∃n,fwZ C.tx (jJ C k) C.p k=n:=⟨_,rfl⟩
 obtain⟨A,v⟩:∃A,aR (eM C k) C.tx n=A:=⟨_,rfl⟩
 have a0:Hid (ba C k={A with p:=2,ct:=0,lv:=0,ov:=false}):=by show _=_;rw[<- v,<- w];rfl
 rw[w]at u l;rw[v]at l;clear w v;go_upto_region 4 with fail
 go_cut [] (fun i=>Hid (mx w0 M G f1 f3 nm A i));case first=>
  go_region_with (first|(go_at_call 249;refine(u.o _ t.o).mono ?_;rintro o w5 ⟨rfl,rfl⟩)|(go_at_call 218;refine(l.o _ t.o).mono ?_;rintro o w5 ⟨rfl,T⟩;have H7:=ar T;clear T))
  all_goals(
   go_wp2_with fail;go_meet
   case rel=>exact H7.o)
 case rest=>
 have a:=hcut;clear hcut f s t u l;have y3:=a.o.m.cell 3 (I J A.p) rfl;have y4:=a.o.m.cell 4 (I J A.ct) rfl;have y5:=a.o.m.cell 5 (I J A.lv) rfl;have y7:=a.o.m.cell 7 (bO A.ov) rfl;have z3:=a.o.m.free 3;have z4:=a.o.m.free 4;have z5:=a.o.m.free 5;have z7:=a.o.m.free 7;have H9:=hI (((((a.o.set 3 (I J 2) {A with p:=2} rfl rfl).set 4 (I J 0) {A with p:=2,ct:=0} rfl rfl).set 5 (I J 0) {A with p:=2,ct:=0,lv:=0} rfl rfl).set 7 (bO false) {A with p:=2,ct:=0,lv:=0,ov:=false} rfl rfl));go_wp2_with fail;refine bN ?_
 exact⟨rfl,by rw[a0.o];exact H9.o⟩
end
def dQ(A:Co):Co:=⟨7,0,0,false,false,false,false,false,0,A.te,A.re,A.ho⟩
def mc.moment{w0:World}{M:Nat}{G:Lg}{C:Co}{a c:Nat}{hs:Nat->Hd}{d:Nat}{D:DataW Unit}{W:World}(h:mc w0 M G C a c hs d D W):mc w0 M G (dQ C) a c hs d D (W.setCells M 3 [I J 7,I J 0,I J 0,bO false,bO false,bO false,bO false,bO false,I J 0]):=by
 refine⟨?_,?_,h.o,h.e⟩
 .have h':=h.m;exact blk.put [ap G.P,I J C.te,I J C.re] [I J C.p,I J C.ct,I J C.lv,bO C.wk,bO C.ov,bO C.ow,bO C.tx,bO C.ak,I J C.rn] (sgF G.s++prL) [I J 7,I J 0,I J 0,bO false,bO false,bO false,bO false,bO false,I J 0] h' rfl
 .exact h.h.other M h.o (fun q f=>sO _ q f _ _ _) (sZ ..) (sW h.o.2.2.2.2.2.2 3 _ h.h.b) h.e
def Dq:(Tp.info? 174).map (·.size)=some 9:=kr
def au(C A:Co):Co:=dB (if A.te=256/\A.p≠7 then dQ A else A) (stZ C.te C.re)
def pW(C:Co)(k:Int):(ba C k).p=2:=rfl
structure dcS(w:World)(C:Co)(s:Sl)(W:World):Prop where
 p:blk W w.heap.size (coL C s) 52
 r:blk W (w.heap.size+1) Z21 52
 b:Bl w W
def dcS.new(w:World)(C:Co)(s:Sl):dcS w C s ((w.alloc (.cells (coL C s).toArray 52)).alloc (.cells Z21.toArray 52)):=by
 refine⟨(blk.new w _ 52).alloc _,?_,Zw.alloc pQ _⟩;have:=blk.new (w.alloc (.cells (coL C s).toArray 52)) Z21 52;simpa using this
section
variable{w:World}{b:Nat}
def blk.host{C:Co}{s:Sl}(h:blk w b (coL C s) 52)(H:Ho)(a:Sl):blk (w.setCells b 11 (hoL H a)) b (coL {C with ho:=H} a) 52:=by
 have c:blk w b (coM C++hoL C.ho s++[]) 52:=by rw[Qg,<- DK];exact h
 have:=blk.put (coM C) (hoL C.ho s) [] (hoL H a) c rfl;rw[Qg]at this;exact this
def Gh(H:Ho)(s:Sl):(Tp.info? 50).map (·.size)=some (hoL H s).toArray.size:=jv H s
def blk.core{l:List Value}(h:blk w b l 52)(a:l.length=21)(C:Co)(s:Sl):blk (w.setCells b 0 (coL C s)) b (coL C s) 52:=by
 have:=blk.put [] l [] (coL C s) (w:=w) (b:=b) (T:=52) (by simpa using h) (by rw[a,cL]);simpa using this
end
def zCo:Co:=⟨0,0,0,false,false,false,false,false,0,0,0,zHo⟩
def cN(C:Co)(n:Int):Co:=if(aR C C.tx n).te=256 then dQ (aR C C.tx n)else aR C C.tx n
def j4(w:World)(C:Co)(s:Sl)(n:Int)(u:0<=n/\n<=8)(x:0<=C.te/\C.te<256)(v:0<=C.re/\C.re<=255):ce 107 #[aG (coL C s).toArray,I J n] w fun o w'=>o=rT (aG (coL (cN C n) s).toArray)/\Bl w w':=by
 have hd:dcS w C s ((w.alloc (.cells (coL C s).toArray 52)).alloc (.cells zY.toArray 52)):=dcS.new w C s;have g:=hI (qB hd.p (qB hd.r hd.b));have A:=hd.p.cell 6 (bO C.tx) rfl;have Y:=hd.p.cell 9 (I J C.te) rfl;have X:=hd.p.cell 10 (I J C.re) rfl;have G:=hd.p.free 9;have E:=hd.p.free 10;clear hd;generalize H:((w.alloc (.cells (coL C s).toArray 52)).alloc (.cells zY.toArray 52))=i at*;by_cases j:C.tx=true
 .rw[j]at A;have B:IntKind.i64.wrap (C.te+n)=C.te+n:=by rw[QC];omega
  have h:Hid (aR C C.tx n={C with te:=if 256<=C.te+n then 256 else C.te+n}):=by show aR C C.tx n=_;unfold aR;rw[QW j]
  have a:Hid (blk (i.setCell ⟨w.heap.size,9,nn⟩ (I J (C.te+n))) w.heap.size (coL {C with te:=C.te+n} s) 52/\blk (i.setCell ⟨w.heap.size,9,nn⟩ (I J (C.te+n))) (w.heap.size+1) Z21 52/\Bl w (i.setCell ⟨w.heap.size,9,nn⟩ (I J (C.te+n)))):=⟨g.o.1.set 9 (I J (C.te+n)),g.o.2.1.setOther om 9 _,g.o.2.2.setCell (nR _) _⟩
  have u9:=a.o.1.cell 9 (I J (C.te+n)) rfl;have u10:=a.o.1.cell 10 (I J C.re) rfl;by_cases f:256<=C.te+n
  .have db:decide (256<=C.te+n)=true:=by simpa using f
   have k:Hid (cN C n=dQ {C with te:=256}):=by show cN C n=_;unfold cN;rw[h.o,QW f];rw[QW rfl]
   clear j u x v f h g;have K:=a.o.1.cell 11 (I J C.ho.c0) rfl;have L:=a.o.1.cell 12 (I J C.ho.c1) rfl;have M:=a.o.1.cell 13 (I J C.ho.c2) rfl;have N:=a.o.1.cell 14 (I J C.ho.c3) rfl;have O:=a.o.1.cell 15 (sL s.a1 s.n1 s.k1) rfl;have Q:=a.o.1.cell 16 (sL s.a2 s.n2 s.k2) rfl;have R:=a.o.1.cell 17 (sL s.a3 s.n3 s.k3) rfl;have S:=a.o.1.cell 18 (sL s.a4 s.n4 s.k4) rfl;have T:=a.o.1.cell 19 (I J C.ho.lo) rfl;have U:=a.o.1.cell 20 (I J C.ho.st) rfl;go_enter func107,ntmps107
   go_wp2_with(refine Zs 52 (coL (dQ {C with te:=256}) s).toArray (a.o.2.1.there 0 _ (by rw[Q7,cL];decide)) (eY _ _) (cO _ _) ?_;generalize e:World.setCells _ (w.heap.size+1) 0 _=c;have l:Hid (_=c):=e;clear e)
   have d:=l.o;have hF:blk c (w.heap.size+1) (coL (dQ {C with te:=256}) s) 52:=by
    rw[<- d];exact a.o.2.1.core rfl _ _
   have t:=Qt (P:=Tp) c (w.heap.size+1) 0 52 _ _ hF.load underlying52 rfl (aV _ _);refine bC results107 t ?_;exact⟨by rw[k.o],by rw[<- d];exact sW om 0 _ a.o.2.2⟩
  .have db:decide (256<=C.te+n)=false:=by simpa using f
   have k:Hid (cN C n={C with te:=C.te+n}):=by show cN C n=_;unfold cN;rw[h.o,QV f];rw[QV (by show¬C.te+n=256;omega)]
   clear j u x v f h g;go_enter func107,ntmps107
   go_wp2_with(first|(refine ZG 52 a.o.1.load underlying52 (aV _ _) ?_)|(refine Zs 52 (coL {C with te:=C.te+n} s).toArray (a.o.2.1.there 0 _ (by rw[Q7,cL];decide)) (eY _ _) (cO _ _) ?_;generalize e:World.setCells _ (w.heap.size+1) 0 _=c;have l:Hid (_=c):=e;clear e))
   have d:=l.o;have hF:blk c (w.heap.size+1) (coL {C with te:=C.te+n} s) 52:=by
    rw[<- d];exact a.o.2.1.core rfl _ _
   have t:=Qt (P:=Tp) c (w.heap.size+1) 0 52 _ _ hF.load underlying52 rfl (aV _ _);refine bC results107 t ?_;exact⟨by rw[k.o],by rw[<- d];exact sW om 0 _ a.o.2.2⟩
 .have dx':C.tx=false:=by simpa using j
  rw[dx']at A;have B:IntKind.i64.wrap (C.re+n)=C.re+n:=by rw[QC];omega
  have h:Hid (aR C C.tx n={C with re:=min (C.re+n) 255}):=by show aR C C.tx n=_;unfold aR;rw[QV j]
  have D:decide (256<=C.te)=false:=by simp;omega
  have y:¬C.te=256:=om;have a:Hid (blk (i.setCell ⟨w.heap.size,10,nn⟩ (I J (C.re+n))) w.heap.size (coL {C with re:=C.re+n} s) 52/\blk (i.setCell ⟨w.heap.size,10,nn⟩ (I J (C.re+n))) (w.heap.size+1) Z21 52/\Bl w (i.setCell ⟨w.heap.size,10,nn⟩ (I J (C.re+n)))):=⟨g.o.1.set 10 (I J (C.re+n)),g.o.2.1.setOther om 10 _,g.o.2.2.setCell (nR _) _⟩
  have u9:=a.o.1.cell 9 (I J C.te) rfl;have u10:=a.o.1.cell 10 (I J (C.re+n)) rfl;have k10:=a.o.1.free 10;by_cases f:255<C.re+n
  .have db:decide (255<C.re+n)=true:=by simpa using f
   have H2:Hid (blk ((i.setCell ⟨w.heap.size,10,nn⟩ (I J (C.re+n))).setCell ⟨w.heap.size,10,nn⟩ (I J 255)) w.heap.size (coL {C with re:=255} s) 52/\blk ((i.setCell ⟨w.heap.size,10,nn⟩ (I J (C.re+n))).setCell ⟨w.heap.size,10,nn⟩ (I J 255)) (w.heap.size+1) Z21 52/\Bl w ((i.setCell ⟨w.heap.size,10,nn⟩ (I J (C.re+n))).setCell ⟨w.heap.size,10,nn⟩ (I J 255))):=⟨a.o.1.set 10 (I J 255),a.o.2.1.setOther om 10 _,a.o.2.2.setCell (nR _) _⟩
   have W:=H2.o.1.cell 9 (I J C.te) rfl;have k:Hid (cN C n={C with re:=255}):=by show cN C n=_;unfold cN;rw[h.o,QV y,Int.min_eq_right om]
   clear j dx' u x v f h g y;go_enter func107,ntmps107
   go_wp2_with(first|(refine ZG 52 H2.o.1.load underlying52 (aV _ _) ?_)|(refine Zs 52 (coL {C with re:=255} s).toArray (H2.o.2.1.there 0 _ (by rw[Q7,cL];decide)) (eY _ _) (cO _ _) ?_;generalize e:World.setCells _ (w.heap.size+1) 0 _=c;have l:Hid (_=c):=e;clear e))
   have d:=l.o;have hF:blk c (w.heap.size+1) (coL {C with re:=255} s) 52:=by
    rw[<- d];exact H2.o.2.1.core rfl _ _
   have t:=Qt (P:=Tp) c (w.heap.size+1) 0 52 _ _ hF.load underlying52 rfl (aV _ _);refine bC results107 t ?_;exact⟨by rw[k.o],by rw[<- d];exact sW om 0 _ H2.o.2.2⟩
  .have db:decide (255<C.re+n)=false:=by simpa using f
   have k:Hid (cN C n={C with re:=C.re+n}):=by show cN C n=_;unfold cN;rw[h.o,QV y,Int.min_eq_left om]
   clear j dx' u x v f h g y;go_enter func107,ntmps107
   go_wp2_with(first|(refine ZG 52 a.o.1.load underlying52 (aV _ _) ?_)|(refine Zs 52 (coL {C with re:=C.re+n} s).toArray (a.o.2.1.there 0 _ (by rw[Q7,cL];decide)) (eY _ _) (cO _ _) ?_;generalize e:World.setCells _ (w.heap.size+1) 0 _=c;have l:Hid (_=c):=e;clear e))
   have d:=l.o;have hF:blk c (w.heap.size+1) (coL {C with re:=C.re+n} s) 52:=by
    rw[<- d];exact a.o.2.1.core rfl _ _
   have t:=Qt (P:=Tp) c (w.heap.size+1) 0 52 _ _ hF.load underlying52 rfl (aV _ _);refine bC results107 t ?_;exact⟨by rw[k.o],by rw[<- d];exact sW om 0 _ a.o.2.2⟩
def fA(w:World)(C:Co)(s:Sl):ce 50 #[aG (coL C s).toArray] w fun o w'=>o=rT (I J (esZ C.p C.te C.re))/\Bl w w':=by
 show ce 50 #[coV C s] w _;obtain⟨p,ct,lv,wk,ov,ow,tx,a,rn,te,re,⟨b,c1,c2,c3,c,bx,ff,qu,lo,st⟩⟩:=C;obtain⟨a1,n1,k1,a2,n2,k2,a3,n3,k3,a4,n4,k4⟩:=s;go_enter func50,ntmps50;go_wp2_with(go_at_call 106;refine(sB _ _ _ _).mono ?_;rintro o d ⟨rfl,rfl⟩);go_ret;exact⟨rfl,Zw⟩
section
variable{n:Nat}{H:Ho}
def iB.farL{W V:World}{a:Option Addr}{cap:Nat}{l:List Nat}(h:iB W a n cap l){x:Nat}{L:List Value}{r:TypeId}(c:blk W x L r)(d:∀j,Value.int .u8 j∉L)(f:∀q,q≠x->V.heap[q]?=W.heap[q]?):iB V a n cap l:=by
 refine⟨h.len,h.cap,h.small,fun hne=>?_⟩;obtain⟨g,off,e,i⟩:=h.cells hne;refine⟨g,off,e,fun j p=>?_⟩;have b:=i j p;have k:g≠x:=by
  rintro rfl;refine d (l[j]:Int) ?_;unfold blk at c;unfold World.cell? at b;rw[c]at b;simp at b;exact List.mem_of_getElem? b
 unfold World.cell? at b ⊢;rw[f g k];exact b
structure bdQ(n:Nat)(H:Ho):Prop where
 q:H.qu.length<=n
 lo:0<=H.lo/\H.lo<=100000
def bdQ.post(h:bdQ n H)(e:R8):bdQ (n+1) (pH H e):=by
 refine⟨?_,?_⟩
 .show (quP H.c3 H.qu e).length<=n+1;have:=h.q;unfold quP;split
  .rw[QX,Q1];omega
  .omega
 .show 0<=loP H.c3 H.qu H.lo/\loP H.c3 H.qu H.lo<=100000;have:=h.lo;unfold loP;split
  .exact h.lo
  .split
   .omega
   .exact h.lo
def bdQ.up(h:bdQ n H){m:Nat}(hm:n<=m):bdQ m H:=⟨nT h.q hm,h.lo⟩
def bdQ.rel(h:bdQ n H)(b:Bool):bdQ (n+1) (bz H b):=by
 have a:∀k,bdQ n (dK H k):=fun k=>⟨h.q,h.lo⟩
 unfold bz;split
 .split
  .exact (a _).post _
  .split
   .exact (a _).post _
   .rw[lE (by assumption)];exact⟨Nat.le_succ_of_le h.q,h.lo⟩
 .exact h.up (Nat.le_succ _)
def dP.bd(h:dP H):bdQ 900 H:=by
 have h1:=qJ h.cf;have a:=h.nq;exact⟨om,h.l0,h.l1⟩
def tlC(C:Co)(old:Int):Co:=if esZ C.p C.te C.re=old then C else{C with ho:=pH C.ho (ev3 10 (esZ C.p C.te C.re) 0)}
def rm(C:Co)(n:Int):(cN C n).ho=C.ho:=by
 unfold cN;split
 .show (aR C C.tx n).ho=_;unfold aR;split<;>rfl
 .unfold aR;split<;>rfl
end
def ns(X:Co):Co:=if X.p=7 then X else{X with p:=2,ct:=0,lv:=0,ov:=false}
def Bp{C:Co}(hok:cH C)(k b:Int)(h:¬(C.p=1/\C.tx=true)):bz (pH C.ho (ev3 8 k b)) false=pH C.ho (ev3 8 k b):=jf (fun e=>h (hok.s.2 (fun ha=>ha _ e (jQ e))))
def FD(X:Co)(b:0<=X.te/\X.te<256)(a:0<=X.re/\X.re<=255):cN X 0=X:=by
 have e:aR X X.tx 0=X:=by
  unfold aR;split
  .rw[QV om,Int.add_zero]
  .rw[Int.add_zero,Int.min_eq_left a.2]
 unfold cN;rw[e,QV om]
def CI{C:Co}(n:C.p≠7)(k:Int):tlC (ns (cN (eM C k) (fwZ C.tx (jJ C k) C.p k))) (stZ C.te C.re)=au C (ba C k):=by
 have d:∀X:Co,X.p≠7->X.te≠256->∀b,tlC X b=dB X b:=fun X h1 c b=>by
  unfold tlC dB esZ stZ;rw[QV h1,QV c]
 have f:∀X:Co,X.te=256->∀b,tlC (dQ X) b=dB (dQ X) b:=fun X c b=>by
  unfold tlC dB;have j:(dQ X).te=256:=c;have l:(dQ X).p=7:=rfl;unfold esZ stZ;rw[QW j,QW l]
 obtain⟨A,a⟩:∃A,aR (eM C k) C.tx (fwZ C.tx (jJ C k) C.p k)=A:=⟨_,rfl⟩
 have g:cN (eM C k) (fwZ C.tx (jJ C k) C.p k)=if A.te=256 then dQ A else A:=by
  rw[<- a];rfl
 have h:ba C k={A with p:=2,ct:=0,lv:=0,ov:=false}:=by rw[<- a];rfl
 have i:A.p=C.p:=by rw[<- a];unfold aR;split<;>rfl
 rw[g,h];unfold au;by_cases e:A.te=256
 .rw[QW e,QW ⟨e,by show(2:Int)≠7;decide⟩];show tlC (ns (dQ A)) _=dB (dQ A) _;rw[show ns (dQ A)=dQ A from QW rfl];exact f A e _
 .rw[QV e,QV (fun x=>e x.1)];rw[show ns A={A with p:=2,ct:=0,lv:=0,ov:=false}from QV (by rw[i];exact n)];exact d {A with p:=2,ct:=0,lv:=0,ov:=false} (by show(2:Int)≠7;decide) e _
def ltB(x y:Int):∃b:Bool,decide (x<y)=b/\Hid (b=true↔x<y):=⟨_,rfl,by show _↔_;simp⟩
section
variable{w0:World}{M:Nat}{G:Lg}{f1 f3 nm:Nat}{C:Co}{W:World}
def mx.off(h:mx w0 M G f1 f3 nm C W):mx w0 M G f1 f3 nm (dQ C) (W.setCells M 3 [I J 7,I J 0,I J 0,bO false,bO false,bO false,bO false,bO false,I J 0]):=by obtain⟨_,_,h⟩:=h;exact⟨_,_,h.moment⟩
def ovC(C:Co):Co:={C with p:=2,ct:=0,ov:=true,ho:=pH C.ho (ev3 9 0 0)}
def gO(h:mx w0 M G f1 f3 nm C W):ce 219 #[ap M] W fun o w'=>o=rT (.tuple #[])/\mx w0 M G f1 f3 nm (ovC C) w':=by
 have a:=hI h;have c:=hI ((((a.o.set 3 (I J 2) {C with p:=2} rfl rfl).set 4 (I J 0) {C with p:=2,ct:=0} rfl rfl).set 7 (bO true) {C with p:=2,ct:=0,ov:=true} rfl rfl));have f:=h.m.cell 3 (I J C.p) rfl;have g:=h.m.cell 4 (I J C.ct) rfl;have i:=h.m.cell 7 (bO C.ov) rfl;have j:=h.m.free 3;have k:=h.m.free 4;have l:=h.m.free 7;have e:=h.m.cell 0 (ap G.P) rfl;go_enter func219,ntmps219;go_wp2_with fail;refine(c.o.post 9 0 0).mono ?_;rintro o d ⟨rfl,h1⟩;have b:=hI h1;go_wp2_with fail;refine bN ?_
 exact⟨rfl,b.o⟩
def idC(C:Co)(bit:Int):Co:=if bit=0 then{C with p:=1}else C
def Aw(h:mx w0 M G f1 f3 nm C W)(bit:Int):ce 178 #[ap M,I J bit] W fun o w'=>o=rT (.tuple #[])/\mx w0 M G f1 f3 nm (idC C bit) w':=by
 have a:=hI h;have d:=h.m.cell 3 (I J C.p) rfl;have f:=h.m.free 3;obtain⟨b,e,_,fb⟩:=eqB bit 0;cases b
 .have HR:Hid (idC C bit=C):=QV (fun x=>by have:=fb.o.2 x;cases this);go_enter func178,ntmps178;go_wp2_with fail;refine bN ?_
  exact⟨rfl,by rw[HR.o];exact a.o⟩
 .have HR:Hid (idC C bit={C with p:=1}):=QW (fb.o.1 rfl);have c:=hI ((a.o.set 3 (I J 1) {C with p:=1} rfl rfl));go_enter func178,ntmps178;go_wp2_with fail;refine bN ?_
  exact⟨rfl,by rw[HR.o];exact c.o⟩
def suC(C:Co)(bit:Int):Co:=if bit=0 then{C with p:=1,ct:=0,tx:=false}else if C.ct+1=8 then{C with p:=0,ct:=0,tx:=false}else{C with ct:=C.ct+1}
def cR{n:Int}(h:0<=n/\n<=200):IntKind.i64.wrap (n+1)=n+1:=by rw[QC];omega
def rK(h:mx w0 M G f1 f3 nm C W)(bit:Int)(f:0<=C.ct/\C.ct<=200):ce 184 #[ap M,I J bit] W fun o w'=>o=rT (.tuple #[])/\mx w0 M G f1 f3 nm (suC C bit) w':=by
 have d:=hI h;have j:=h.m.cell 3 (I J C.p) rfl;have k:=h.m.cell 4 (I J C.ct) rfl;have l:=h.m.cell 9 (bO C.tx) rfl;have n:=h.m.free 3;have r:=h.m.free 4;have s:=h.m.free 9;have i:=cR f;obtain⟨b,e,_,fb⟩:=eqB bit 0;obtain⟨c,g,_,fc⟩:=eqB (C.ct+1) 8;go_enter func184,ntmps184;cases b
 .cases c
  .have HR:Hid (suC C bit={C with ct:=C.ct+1}):=by show _=_;unfold suC;rw[QV (by simpa using fb.o),QV (by simpa using fc.o)]
   have a:=hI ((d.o.set 4 (I J (C.ct+1)) {C with ct:=(C.ct+1)} rfl rfl));go_wp2_with fail;refine bN ?_
   exact⟨rfl,by rw[HR.o];exact a.o⟩
  .have HR:Hid (suC C bit={C with p:=0,ct:=0,tx:=false}):=by show _=_;unfold suC;rw[QV (by simpa using fb.o),QW (by simpa using fc.o)]
   have a:=hI (((((d.o.set 4 (I J (C.ct+1)) {C with ct:=(C.ct+1)} rfl rfl).set 3 (I J 0) {C with ct:=(C.ct+1),p:=0} rfl rfl).set 4 (I J 0) {C with p:=0,ct:=0} rfl rfl).set 9 (bO false) {C with p:=0,ct:=0,tx:=false} rfl rfl));go_wp2_with fail;refine bN ?_
   exact⟨rfl,by rw[HR.o];exact a.o⟩
 .have HR:Hid (suC C bit={C with p:=1,ct:=0,tx:=false}):=by show _=_;unfold suC;rw[QW (by simpa using fb.o)]
  have a:=hI (((((d.o.set 4 (I J (C.ct+1)) {C with ct:=(C.ct+1)} rfl rfl).set 3 (I J 1) {C with ct:=(C.ct+1),p:=1} rfl rfl).set 4 (I J 0) {C with p:=1,ct:=0} rfl rfl).set 9 (bO false) {C with p:=1,ct:=0,tx:=false} rfl rfl));go_wp2_with fail;refine bN ?_
  exact⟨rfl,by rw[HR.o];exact a.o⟩
def dlC(C:Co)(bit:Int):Co:=if bit=0 then(if C.ct=7 then ovC C else ba C 3)else if C.ct+1=8 then{C with p:=5,ct:=0,ov:=false}else{C with ct:=C.ct+1}
def xP(h:mx w0 M G f1 f3 nm C W)(bit:Int)(n:0<=C.ct/\C.ct<=200)(s:0<=C.te/\C.te<=256)(r:0<=C.re/\C.re<=255)(t:∀j(x:j<C.ho.bx.length),(Lit.int .i64 C.ho.bx[j].y).wf=true):ce 182 #[ap M,I J bit] W fun o w'=>o=rT (.tuple #[])/\mx w0 M G f1 f3 nm (dlC C bit) w':=by
 have a:=hI h;have l:Hid (∀k,ce 217 #[ap M,I J k] W fun o w'=>o=rT (.tuple #[])/\mx w0 M G f1 f3 nm (ba C k) w'):=fun k=>h.fault k s r t;have B:=h.m.cell 3 (I J C.p) rfl;have D:=h.m.cell 4 (I J C.ct) rfl;have E:=h.m.cell 7 (bO C.ov) rfl;have H:=h.m.free 3;have K:=h.m.free 4;have L:=h.m.free 7;have A:=cR n;obtain⟨b,e,_,fb⟩:=eqB bit 0;obtain⟨c,v,_,fc⟩:=eqB (C.ct+1) 8;obtain⟨d,w,_,i⟩:=eqB C.ct 7;go_enter func182,ntmps182;cases b
 .cases c
  .have HR:Hid (dlC C bit={C with ct:=C.ct+1}):=by show _=_;unfold dlC;rw[QV (by simpa using fb.o),QV (by simpa using fc.o)]
   have g:=hI ((a.o.set 4 (I J (C.ct+1)) {C with ct:=(C.ct+1)} rfl rfl));go_wp2_with fail;refine bN ?_
   exact⟨rfl,by rw[HR.o];exact g.o⟩
  .have HR:Hid (dlC C bit={C with p:=5,ct:=0,ov:=false}):=by show _=_;unfold dlC;rw[QV (by simpa using fb.o),QW (by simpa using fc.o)]
   have g:=hI (((((a.o.set 4 (I J (C.ct+1)) {C with ct:=(C.ct+1)} rfl rfl).set 3 (I J 5) {C with ct:=(C.ct+1),p:=5} rfl rfl).set 4 (I J 0) {C with p:=5,ct:=0} rfl rfl).set 7 (bO false) {C with p:=5,ct:=0,ov:=false} rfl rfl));go_wp2_with fail;refine bN ?_
   exact⟨rfl,by rw[HR.o];exact g.o⟩
 .cases d
  .have HR:Hid (dlC C bit=ba C 3):=by show _=_;unfold dlC;rw[QW (by simpa using fb.o),QV (by simpa using i.o)]
   go_wp2_with fail;refine(l.o 3).mono ?_;rintro o u ⟨rfl,h1⟩;have f:=ar h1;go_wp2_with fail;refine bN ?_
   exact⟨rfl,by rw[HR.o];exact f.o⟩
  .have HR:Hid (dlC C bit=ovC C):=by show _=_;unfold dlC;rw[QW (by simpa using fb.o),QW (by simpa using i.o)]
   go_wp2_with fail;refine(gO a.o).mono ?_;rintro o u ⟨rfl,h1⟩;have f:=ar h1;go_wp2_with fail;refine bN ?_
   exact⟨rfl,by rw[HR.o];exact f.o⟩
def wfX(X:Co)(bit:Int):Co:=if bit=X.lv then(if X.ct+1=6 then{X with p:=3,ct:=0,lv:=0,wk:=false,ow:=false}else{X with ct:=X.ct+1,lv:=bit})else{X with ct:=1,lv:=bit}
def wfO(C:Co)(bit:Int):Co:=if C.ow=true/\bit=0 then aR {C with ow:=false} C.tx 8 else C
def yq(C:Co)(bit:Int):(wfO C bit).ct=C.ct:=by unfold wfO aR;split<;>(try split)<;>rfl
def yr(h:mx w0 M G f1 f3 nm C W)(bit:Int)(k:0<=C.ct/\C.ct<=200)(H:0<=C.te/\C.te<=256)(E:0<=C.re/\C.re<=255):ce 216 #[ap M,I J bit] W fun o w'=>o=rT (.tuple #[])/\mx w0 M G f1 f3 nm (wfX (wfO C bit) bit) w':=by
 have a:=hI h;have s:=hI ((((a.o.set 8 (bO false) {C with ow:=false} rfl rfl)).below (bW _ _).drew).add C.tx 8 (by decide) H E);have t:=hI k;have r:=h.m.cell 8 (bO C.ow) rfl;have K:=h.m.cell 9 (bO C.tx) rfl;have z8:=h.m.free 8;obtain⟨b,e,_,fb⟩:=eqB bit 0;obtain⟨ow,v⟩:∃b,C.ow=b:=⟨_,rfl⟩
 rw[v]at r;have D:=hI v;go_enter func216,ntmps216;go_upto_region 0 with fail
 go_cut [12] (fun x l=>x=bO (ow&&b)/\l=W);case first=>
  cases ow<;>cases b<;>(
   go_wp2_with fail;go_meet
   case rel=>exact⟨rfl,rfl⟩)
 case rest=>
 obtain⟨rfl,y⟩:=hcut;subst y;obtain⟨c,u⟩:∃c,(ow&&b)=c:=⟨_,rfl⟩
 rw[u];have i:Hid (wfO C bit=if c=true then aR {C with ow:=false} C.tx 8 else C):=by
  have k:(C.ow=true/\bit=0)↔c=true:=by rw[<- u,D.o,<- fb.o];cases ow<;>cases b<;>simp
  show _=_;unfold wfO;simp only[k]
 go_upto_if 12 with fail
 go_cut [] (fun l=>Hid (mx w0 M G f1 f3 nm (wfO C bit) l));case first=>
  cases c
  .go_wp2_with fail;go_meet;case rel=>rw[i.o];exact a.o
  .go_wp2_with fail;go_region_with (go_at_call 218;refine s.o.mono ?_;rintro o N ⟨rfl,h1⟩;have A:=ar h1;clear h1)
   all_goals(
    go_wp2_with fail;go_meet
    case rel=>rw[i.o];exact A.o)
 case rest=>
 obtain⟨X,g⟩:∃X,wfO C bit=X:=⟨_,rfl⟩
 have B:Hid (0<=X.ct/\X.ct<=200):=by rw[<- g,yq];exact t.o
 rw[g]at hcut;have j:=hI g;clear g i s a t r K z8;have a:=hcut;have O:=a.o.m.cell 3 (I J X.p) rfl;have P:=a.o.m.cell 4 (I J X.ct) rfl;have Q:=a.o.m.cell 5 (I J X.lv) rfl;have R:=a.o.m.cell 6 (bO X.wk) rfl;have r:=a.o.m.cell 8 (bO X.ow) rfl;have S:=a.o.m.free 3;have T:=a.o.m.free 4;have z5:=a.o.m.free 5;have U:=a.o.m.free 6;have z8:=a.o.m.free 8;have y:=cR B.o;obtain⟨b,e,n,fb⟩:=eqB bit X.lv;obtain⟨d,L,_,w⟩:=eqB (X.ct+1) 6;cases b
 .have HR:Hid (wfX X bit={X with ct:=1,lv:=bit}):=by show _=_;unfold wfX;rw[QV (by simpa using fb.o)]
  have f:=hI ((((a.o.set 4 (I J 0) {X with ct:=0} rfl rfl).set 4 (I J 1) {X with ct:=1} rfl rfl).set 5 (I J bit) {X with ct:=1,lv:=bit} rfl rfl));go_wp2_with fail;refine bN ?_
  exact⟨rfl,by rw[j.o,HR.o];exact f.o⟩
 .cases d
  .have HR:Hid (wfX X bit={X with ct:=X.ct+1,lv:=bit}):=by show _=_;unfold wfX;rw[QW (by simpa using fb.o),QV (by simpa using w.o)]
   have f:=hI (((a.o.set 4 (I J (X.ct+1)) {X with ct:=(X.ct+1)} rfl rfl).set 5 (I J bit) {X with ct:=(X.ct+1),lv:=bit} rfl rfl));go_wp2_with fail;refine bN ?_
   exact⟨rfl,by rw[j.o,HR.o];exact f.o⟩
  .have HR:Hid (wfX X bit={X with p:=3,ct:=0,lv:=0,wk:=false,ow:=false}):=by show _=_;unfold wfX;rw[QW (by simpa using fb.o),QW (by simpa using w.o)]
   have f:=hI ((((((((a.o.set 4 (I J (X.ct+1)) {X with ct:=(X.ct+1)} rfl rfl).set 5 (I J bit) {X with ct:=(X.ct+1),lv:=bit} rfl rfl).set 3 (I J 3) {X with ct:=(X.ct+1),lv:=bit,p:=3} rfl rfl).set 4 (I J 0) {X with lv:=bit,p:=3,ct:=0} rfl rfl).set 5 (I J 0) {X with p:=3,ct:=0,lv:=0} rfl rfl).set 6 (bO false) {X with p:=3,ct:=0,lv:=0,wk:=false} rfl rfl).set 8 (bO false) {X with p:=3,ct:=0,lv:=0,wk:=false,ow:=false} rfl rfl));go_wp2_with fail;refine bN ?_
   exact⟨rfl,by rw[j.o,HR.o];exact f.o⟩
end
section
variable{w0:World}{M:Nat}{G:Lg}{f1 f3 nm:Nat}{C:Co}{W:World}
def flC(C:Co)(bit:Int):Co:=if C.wk=true then wfX (wfO C bit) bit else if bit=1 then ba C 1 else if C.ct+1=6 then{C with p:=3,ct:=0}else{C with ct:=C.ct+1}
def xH(h:mx w0 M G f1 f3 nm C W)(bit:Int)(i:0<=C.ct/\C.ct<=200)(n:0<=C.te/\C.te<=256)(l:0<=C.re/\C.re<=255)(s:∀j(A:j<C.ho.bx.length),(Lit.int .i64 C.ho.bx[j].y).wf=true):ce 180 #[ap M,I J bit] W fun o w'=>o=rT (.tuple #[])/\mx w0 M G f1 f3 nm (flC C bit) w':=by
 have r:=hI h;have t:Hid (∀k,ce 217 #[ap M,I J k] W fun o w'=>o=rT (.tuple #[])/\mx w0 M G f1 f3 nm (ba C k) w'):=fun k=>h.fault k n l s;have u:=hI (yr h bit i n l);have D:=h.m.cell 3 (I J C.p) rfl;have E:=h.m.cell 4 (I J C.ct) rfl;have w:=h.m.cell 6 (bO C.wk) rfl;have H:=h.m.free 3;have K:=h.m.free 4;clear h n l s;have B:=cR i;clear i;obtain⟨wk,g⟩:∃b,C.wk=b:=⟨_,rfl⟩
 rw[g]at w;have a:Hid (wk=true↔C.wk=true):=by show _↔_;rw[g]
 clear g;obtain⟨b,e,_,fb⟩:=eqB bit 1;obtain⟨c,x,_,fc⟩:=eqB (C.ct+1) 6;go_enter func180,ntmps180;cases wk
 .cases b
  .cases c
   .have HR:Hid (flC C bit={C with ct:=C.ct+1}):=by show _=_;unfold flC;rw[QV (by simpa using a.o),QV (by simpa using fb.o),QV (by simpa using fc.o)]
    have f:=hI ((r.o.set 4 (I J (C.ct+1)) {C with ct:=(C.ct+1)} rfl rfl));go_wp2_with fail;refine bN ?_
    exact⟨rfl,by rw[HR.o];exact f.o⟩
   .have HR:Hid (flC C bit={C with p:=3,ct:=0}):=by show _=_;unfold flC;rw[QV (by simpa using a.o),QV (by simpa using fb.o),QW (by simpa using fc.o)]
    have f:=hI ((((r.o.set 4 (I J (C.ct+1)) {C with ct:=(C.ct+1)} rfl rfl).set 3 (I J 3) {C with ct:=(C.ct+1),p:=3} rfl rfl).set 4 (I J 0) {C with p:=3,ct:=0} rfl rfl));go_wp2_with fail;refine bN ?_
    exact⟨rfl,by rw[HR.o];exact f.o⟩
  .have HR:Hid (flC C bit=ba C 1):=by show _=_;unfold flC;rw[QV (by simpa using a.o),QW (by simpa using fb.o)]
   go_wp2_with fail;refine(t.o 1).mono ?_;rintro o v ⟨rfl,h1⟩;have d:=ar h1;clear h1;go_wp2_with fail;refine bN ?_
   exact⟨rfl,by rw[HR.o];exact d.o⟩
 .have HR:Hid (flC C bit=wfX (wfO C bit) bit):=by show _=_;unfold flC;rw[QW (by simpa using a.o)]
  go_wp2_with fail;refine(u.o).mono ?_;rintro o v ⟨rfl,h1⟩;have d:=ar h1;clear h1;go_wp2_with fail;refine bN ?_
  exact⟨rfl,by rw[HR.o];exact d.o⟩
def waC(C:Co)(bit:Int):Co:=if bit=1 then{C with p:=4,ct:=1}else if(C.ct+1=1/\C.tx=false/\C.ov=false)\/C.ct+1=8 then aR {C with ct:=C.ct+1} C.tx 8 else if C.ct+1=16 then{aR {C with ct:=C.ct+1} C.tx 8 with ct:=8}else{C with ct:=C.ct+1}
def yt(h:mx w0 M G f1 f3 nm C W)(bit:Int)(v:0<=C.ct/\C.ct<=200)(x:0<=C.te/\C.te<=256)(w:0<=C.re/\C.re<=255):ce 181 #[ap M,I J bit] W fun o w'=>o=rT (.tuple #[])/\mx w0 M G f1 f3 nm (waC C bit) w':=by
 have j:=hI h;have t:Hid (∀b,ce 218 #[ap M,bO b,I J 8] ((World.setCell W ⟨M,4,nn⟩ (I J (C.ct+1)))).drew fun o w'=>o=rT (.tuple #[])/\mx w0 M G f1 f3 nm (aR {C with ct:=C.ct+1} b 8) w'):=fun b=>(((j.o.set 4 (I J (C.ct+1)) {C with ct:=(C.ct+1)} rfl rfl)).below (bW _ _).drew).add b 8 (by decide) x w;have L:=h.m.cell 3 (I J C.p) rfl;have N:=h.m.cell 4 (I J C.ct) rfl;have A:=h.m.cell 7 (bO C.ov) rfl;have B:=h.m.cell 9 (bO C.tx) rfl;have O:=h.m.free 3;have P:=h.m.free 4;clear h x w;have K:=cR v;clear v;obtain⟨tx,r⟩:∃b,C.tx=b:=⟨_,rfl⟩
 obtain⟨ov,s⟩:∃b,C.ov=b:=⟨_,rfl⟩
 rw[r]at B;rw[s]at A;obtain⟨b,e,_,fb⟩:=eqB bit 1;obtain⟨l,D,_,f1⟩:=eqB (C.ct+1) 1;obtain⟨i,H,_,f8⟩:=eqB (C.ct+1) 8;obtain⟨n,E,_,u⟩:=eqB (C.ct+1) 16;have c:Hid (waC C bit=if b=true then{C with p:=4,ct:=1}else if((l&& !tx&& !ov)||i)=true then aR {C with ct:=C.ct+1} tx 8 else if n=true then{aR {C with ct:=C.ct+1} tx 8 with ct:=8}else{C with ct:=C.ct+1}):=by
  show _=_;have h1:(((l&& !tx&& !ov)||i)=true)↔((C.ct+1=1/\C.tx=false/\C.ov=false)\/C.ct+1=8):=by rw[<- f1.o,<- f8.o,r,s];cases l<;>cases tx<;>cases ov<;>cases i<;>simp
  unfold waC;simp only[h1,fb.o,u.o,r]
 have d:=t.o tx;have d:=ar d;clear t r s fb f1 f8 u;go_enter func181,ntmps181;cases b
 .cases l
  .cases i
   .cases n
    .have HR:=hI c.o;have g:=hI ((j.o.set 4 (I J (C.ct+1)) {C with ct:=(C.ct+1)} rfl rfl));go_wp2_with fail;refine bN ?_
     exact⟨rfl,by rw[HR.o];exact g.o⟩
    .have HR:=hI c.o;go_wp2_with fail;go_region_with (go_at_call 218;refine d.o.mono ?_;rintro o f ⟨rfl,h1⟩;have a:=ar h1;clear h1)
     all_goals(
      have u4:=a.o.m.cell 4 (I J (aR {C with ct:=C.ct+1} tx 8).ct) rfl
      have y:=a.o.m.free 4
      have k:Hid (mx w0 M G f1 f3 nm {aR {C with ct:=C.ct+1} tx 8 with ct:=8} (World.setCell f ⟨M,4,nn⟩ (I J 8))):=a.o.set 4 (I J 8) _ rfl rfl
      go_wp2_with fail;refine bN ?_
      exact⟨rfl,by rw[HR.o];exact k.o⟩)
   .have HR:=hI c.o;go_wp2_with fail;go_region_with (go_at_call 218;refine d.o.mono ?_;rintro o f ⟨rfl,h1⟩;have a:=ar h1;clear h1)
    all_goals(
     go_wp2_with fail;refine bN ?_
     exact⟨rfl,by rw[HR.o];exact a.o⟩)
  .cases tx
   .cases ov
    .have HR:=hI c.o;go_wp2_with fail;go_region_with (go_at_call 218;refine d.o.mono ?_;rintro o f ⟨rfl,h1⟩;have a:=ar h1;clear h1)
     all_goals(
      go_wp2_with fail;refine bN ?_
      exact⟨rfl,by rw[HR.o];exact a.o⟩)
    .cases i
     .cases n
      .have HR:=hI c.o;have g:=hI ((j.o.set 4 (I J (C.ct+1)) {C with ct:=(C.ct+1)} rfl rfl));go_wp2_with fail;refine bN ?_
       exact⟨rfl,by rw[HR.o];exact g.o⟩
      .have HR:=hI c.o;go_wp2_with fail;go_region_with (go_at_call 218;refine d.o.mono ?_;rintro o f ⟨rfl,h1⟩;have a:=ar h1;clear h1)
       all_goals(
        have u4:=a.o.m.cell 4 (I J (aR {C with ct:=C.ct+1} false 8).ct) rfl
        have y:=a.o.m.free 4
        have k:Hid (mx w0 M G f1 f3 nm {aR {C with ct:=C.ct+1} false 8 with ct:=8} (World.setCell f ⟨M,4,nn⟩ (I J 8))):=a.o.set 4 (I J 8) _ rfl rfl
        go_wp2_with fail;refine bN ?_
        exact⟨rfl,by rw[HR.o];exact k.o⟩)
     .have HR:=hI c.o;go_wp2_with fail;go_region_with (go_at_call 218;refine d.o.mono ?_;rintro o f ⟨rfl,h1⟩;have a:=ar h1;clear h1)
      all_goals(
       go_wp2_with fail;refine bN ?_
       exact⟨rfl,by rw[HR.o];exact a.o⟩)
   .cases i
    .cases n
     .have HR:=hI c.o;have g:=hI ((j.o.set 4 (I J (C.ct+1)) {C with ct:=(C.ct+1)} rfl rfl));go_wp2_with fail;refine bN ?_
      exact⟨rfl,by rw[HR.o];exact g.o⟩
     .have HR:=hI c.o;go_wp2_with fail;go_region_with (go_at_call 218;refine d.o.mono ?_;rintro o f ⟨rfl,h1⟩;have a:=ar h1;clear h1)
      all_goals(
       have u4:=a.o.m.cell 4 (I J (aR {C with ct:=C.ct+1} true 8).ct) rfl
       have y:=a.o.m.free 4
       have k:Hid (mx w0 M G f1 f3 nm {aR {C with ct:=C.ct+1} true 8 with ct:=8} (World.setCell f ⟨M,4,nn⟩ (I J 8))):=a.o.set 4 (I J 8) _ rfl rfl
       go_wp2_with fail;refine bN ?_
       exact⟨rfl,by rw[HR.o];exact k.o⟩)
    .have HR:=hI c.o;go_wp2_with fail;go_region_with (go_at_call 218;refine d.o.mono ?_;rintro o f ⟨rfl,h1⟩;have a:=ar h1;clear h1)
     all_goals(
      go_wp2_with fail;refine bN ?_
      exact⟨rfl,by rw[HR.o];exact a.o⟩)
 .have HR:=hI c.o;have g:=hI (((j.o.set 3 (I J 4) {C with p:=4} rfl rfl).set 4 (I J 1) {C with p:=4,ct:=1} rfl rfl));go_wp2_with fail;refine bN ?_
  exact⟨rfl,by rw[HR.o];exact g.o⟩
end
section
variable{w0:World}{M:Nat}{G:Lg}{f1 f3 nm:Nat}{C:Co}{W:World}
def bkC(C:Co):Co:=⟨0,0,0,false,false,false,false,false,0,0,0,C.ho⟩
def mx.mom(h:mx w0 M G f1 f3 nm C W):mx w0 M G f1 f3 nm ⟨0,0,0,false,false,false,false,false,0,C.te,C.re,C.ho⟩ (W.setCells M 3 [I J 0,I J 0,I J 0,bO false,bO false,bO false,bO false,bO false,I J 0]):=by
 obtain⟨hs,D,h⟩:=h;refine⟨hs,D,?_,?_,h.o,h.e⟩
 .have h':=h.m;exact blk.put [ap G.P,I J C.te,I J C.re] [I J C.p,I J C.ct,I J C.lv,bO C.wk,bO C.ov,bO C.ow,bO C.tx,bO C.ak,I J C.rn] (sgF G.s++prL) [I J 0,I J 0,I J 0,bO false,bO false,bO false,bO false,bO false,I J 0] h' rfl
 .exact h.h.other M h.o (fun q a=>sO _ q a _ _ _) (sZ ..) (sW h.o.2.2.2.2.2.2 3 _ h.h.b) h.e
def GR{V:World}(e:W=V)(h:mx w0 M G f1 f3 nm C W):Hid (mx w0 M G f1 f3 nm C V):=by rw[<- e];exact h
def ri(h:mx w0 M G f1 f3 nm C W):ce 222 #[ap M] W fun o w'=>o=rT (.tuple #[])/\mx w0 M G f1 f3 nm (bkC C) w':=by
 have c:=hI h;clear h;go_enter func222,ntmps222
 go_upto_region 1 with(refine Zs 174 #[I J 0,I J 0,I J 0,bO false,bO false,bO false,bO false,bO false,I J 0] (c.o.m.there 3 9 (by rw[lj];decide)) Dq (Qv (by simp[Value.oneCell'])) ?_;generalize d:World.setCells W M 3 _=g;have a:=GR d c.o.mom;clear d)
 obtain⟨X,b⟩:∃X:Co,X=⟨0,0,0,false,false,false,false,false,0,C.te,C.re,C.ho⟩:=⟨_,rfl⟩
 rw[<- b]at a;have f:Hid ({X with te:=0,re:=0}=bkC C):=by show _=_;rw[b];rfl
 clear b;have i:=a.o.m.cell 1 (I J X.te) rfl;have j:=a.o.m.cell 2 (I J X.re) rfl;have k:=a.o.m.free 1;have l:=a.o.m.free 2;have e:=hI (((a.o.set 1 (I J 0) {X with te:=0} rfl rfl).set 2 (I J 0) {X with te:=0,re:=0} rfl rfl));go_wp2_with fail;refine bN ?_
 exact⟨rfl,by rw[<- f.o];exact e.o⟩
def ofC(C:Co)(bit:Int):Co:=if C.ak=true then(if bit=0 then{C with ct:=0}else if C.ct+1=11 then(if C.rn+1=128 then bkC C else{C with ct:=0,rn:=C.rn+1})else{C with ct:=C.ct+1})else C
def zR(h:mx w0 M G f1 f3 nm C W)(bit:Int)(l:0<=C.ct/\C.ct<=200)(u:0<=C.rn/\C.rn<128):ce 185 #[ap M,I J bit] W fun o w'=>o=rT (.tuple #[])/\mx w0 M G f1 f3 nm (ofC C bit) w':=by
 have f:=hI h;have H:=h.m.cell 4 (I J C.ct) rfl;have v:=h.m.cell 10 (bO C.ak) rfl;have E:=h.m.cell 11 (I J C.rn) rfl;have K:=h.m.free 4;have z11:=h.m.free 11;clear h;have A:=cR l;have B:=cR (n:=C.rn) om;have y:(C.rn==128)=false:=by simp;omega
 clear l u;obtain⟨j,i⟩:∃b,C.ak=b:=⟨_,rfl⟩
 rw[i]at v;have g:Hid (j=true↔C.ak=true):=by show _↔_;rw[i]
 clear i;obtain⟨b,e,_,fb⟩:=eqB bit 0;obtain⟨c,w,_,fc⟩:=eqB (C.ct+1) 11;obtain⟨d,x,_,k⟩:=eqB (C.rn+1) 128;have s:Hid (∀X V,mx w0 M G f1 f3 nm X V->ce 222 #[ap M] V fun o w'=>o=rT (.tuple #[])/\mx w0 M G f1 f3 nm (bkC X) w'):=fun X V t=>ri t;go_enter func185,ntmps185;cases j
 .have HR:Hid (ofC C bit=C):=by show _=_;unfold ofC;rw[QV (by simpa using g.o)]
  have a:=hI f.o;go_wp2_with fail;refine bN ?_
  exact⟨rfl,by rw[HR.o];exact a.o⟩
 .cases b
  .cases c
   .have HR:Hid (ofC C bit={C with ct:=C.ct+1}):=by show _=_;unfold ofC;rw[QW (by simpa using g.o),QV (by simpa using fb.o),QV (by simpa using fc.o)]
    have a:=hI ((f.o.set 4 (I J (C.ct+1)) {C with ct:=(C.ct+1)} rfl rfl));go_wp2_with fail;refine bN ?_
    exact⟨rfl,by rw[HR.o];exact a.o⟩
   .cases d
    .have HR:Hid (ofC C bit={C with ct:=0,rn:=C.rn+1}):=by show _=_;unfold ofC;rw[QW (by simpa using g.o),QV (by simpa using fb.o),QW (by simpa using fc.o),QV (by simpa using k.o)]
     have a:=hI ((((f.o.set 4 (I J (C.ct+1)) {C with ct:=(C.ct+1)} rfl rfl).set 4 (I J 0) {C with ct:=0} rfl rfl).set 11 (I J (C.rn+1)) {C with ct:=0,rn:=(C.rn+1)} rfl rfl));go_wp2_with fail;refine bN ?_
     exact⟨rfl,by rw[HR.o];exact a.o⟩
    .have HR:Hid (ofC C bit=bkC C):=by show _=_;unfold ofC;rw[QW (by simpa using g.o),QV (by simpa using fb.o),QW (by simpa using fc.o),QW (by simpa using k.o)]
     have r:=hI ((((f.o.set 4 (I J (C.ct+1)) {C with ct:=(C.ct+1)} rfl rfl).set 4 (I J 0) {C with ct:=0} rfl rfl).set 11 (I J (C.rn+1)) {C with ct:=0,rn:=(C.rn+1)} rfl rfl));go_wp2_with fail;refine(s.o _ _ r.o).mono ?_;rintro o D ⟨rfl,h1⟩;have p:=ar h1;clear h1;go_wp2_with fail;refine bN ?_
     exact⟨rfl,by rw[HR.o];exact p.o⟩
  .have HR:Hid (ofC C bit={C with ct:=0}):=by show _=_;unfold ofC;rw[QW (by simpa using g.o),QW (by simpa using fb.o)]
   have a:=hI (((f.o.set 4 (I J (C.ct+1)) {C with ct:=(C.ct+1)} rfl rfl).set 4 (I J 0) {C with ct:=0} rfl rfl));go_wp2_with fail;refine bN ?_
   exact⟨rfl,by rw[HR.o];exact a.o⟩
def msB(C:Co):Bool:=C.tx&&(stZ C.te C.re==1)
def oa(h:mx w0 M G f1 f3 nm C W):ce 252 #[ap M] W fun o w'=>o=rT (bO (msB C))/\mx w0 M G f1 f3 nm C w'/\Bl W w':=by
 have e:Hid (mx w0 M G f1 f3 nm C W):=h;have g:Hid (ce 248 #[ap M] W fun o w'=>o=rT (I J (stZ C.te C.re))/\mx w0 M G f1 f3 nm C w'/\Bl W w'):=h.state;have i:=h.m.cell 9 (bO C.tx) rfl;clear h;have a:Hid (msB C=(C.tx&&(stZ C.te C.re==1))):=rfl;generalize stZ C.te C.re=z at*;obtain⟨tx,c⟩:∃b,C.tx=b:=⟨_,rfl⟩
 rw[c]at i a;clear c;go_enter func252,ntmps252;cases tx
 .go_wp2_with fail;go_ret;exact⟨by rw[a.o];rfl,e.o,bW _ _⟩
 .go_wp2_with fail;refine g.o.mono ?_;rintro o j ⟨rfl,h1,d⟩;have f:=ar (qB h1 d);clear h1 d;go_wp2_with fail;go_ret;exact⟨by rw[a.o];rfl,f.o⟩
def lgC(C:Co):Co:=if msB C=true then{C with ct:=0,p:=6}else{C with ct:=0,p:=0,tx:=false}
def xr(h:mx w0 M G f1 f3 nm C W):ce 221 #[ap M] W fun o w'=>o=rT (.tuple #[])/\mx w0 M G f1 f3 nm (lgC C) w':=by
 have i:=hI h;have d:=hI ((i.o.set 4 (I J 0) {C with ct:=0} rfl rfl));have j:=h.m.cell 4 (I J C.ct) rfl;have k:=h.m.free 4;clear h;have c:Hid (ce 252 #[ap M] (World.setCell W ⟨M,4,nn⟩ (I J 0)) fun o w'=>o=rT (bO (msB C))/\mx w0 M G f1 f3 nm {C with ct:=0} w'/\Below ((World.setCell W ⟨M,4,nn⟩ (I J 0))).heap.size (World.setCell W ⟨M,4,nn⟩ (I J 0)) w'):=oa d.o;obtain⟨b,e⟩:∃b,msB C=b:=⟨_,rfl⟩
 have f:Hid (lgC C=if b=true then{C with ct:=0,p:=6}else{C with ct:=0,p:=0,tx:=false}):=by show _=_;unfold lgC;rw[e]
 rw[e]at c;clear e;go_enter func221,ntmps221;go_wp2_with fail;refine c.o.mono ?_;rintro o g ⟨rfl,a,_⟩;have H2:=ar a;have l:=a.m.cell 3 (I J C.p) rfl;have n:=a.m.cell 9 (bO C.tx) rfl;have r:=a.m.free 3;have s:=a.m.free 9;clear a c d j k;cases b
 .have H3:Hid (mx w0 M G f1 f3 nm {C with ct:=0,p:=0,tx:=false} ((g.setCell ⟨M,3,nn⟩ (I J 0)).setCell ⟨M,9,nn⟩ (bO false))):=(H2.o.set 3 (I J 0) {C with ct:=0,p:=0} rfl rfl).set 9 (bO false) _ rfl rfl;go_wp2_with fail;refine bN ?_
  exact⟨rfl,by rw[f.o];exact H3.o⟩
 .have H3:Hid (mx w0 M G f1 f3 nm {C with ct:=0,p:=6} (g.setCell ⟨M,3,nn⟩ (I J 6))):=H2.o.set 3 (I J 6) _ rfl rfl;go_wp2_with fail;refine bN ?_
  exact⟨rfl,by rw[f.o];exact H3.o⟩
def Be(bx:List R8):∃r,dN bx r:=by
 rcases Classical.em (∃i,fZ bx i)with⟨i,h⟩|h
 .exact⟨i,qt ⟨i,rfl,h⟩⟩
 .exact⟨-1,qp ⟨rfl,fun i hi=>h ⟨i,hi⟩⟩⟩
def mx.best(h:mx w0 M G f1 f3 nm C W)(b:da C.ho.st C.ho.bx)(r:Int)(c:dN C.ho.bx r):ce 251 #[ap G.P] W fun o w'=>o=rT (I J r)/\mx w0 M G f1 f3 nm C w':=by
 obtain⟨hs,D,h⟩:=h;refine(Bd W G.P _ G.n2 G.kb C.ho.bx C.ho.st (h.h.p.cell 5 _ rfl) (h.h.x.is h.h.bd.nk) h.h.bd.m2 b).mono ?_;rintro o w' ⟨d,rfl,h1,a⟩;exact⟨by rw[oD h1 c],hs,D,h.below a⟩
def mx.send(h:mx w0 M G f1 f3 nm C W)(i:Int):ce 253 #[ap G.P,I J i] W fun o w'=>o=rT (.tuple #[])/\mx w0 M G f1 f3 nm {C with ho:=cv C.ho i} w':=by
 obtain⟨hs,D,h⟩:=h;refine(zl W G.P G.gb G.n2 G.kb C.ho.bx i (h.h.p.cell 5 _ rfl) (h.h.x.is h.h.bd.nk) h.h.x.row h.h.bd.m2).mono ?_;rintro o w' ⟨rfl,c,a,⟨rfl,e⟩|⟨k,b,rfl,e,_⟩⟩
 .refine⟨rfl,hs,D,?_⟩;rw[show cv C.ho i=C.ho by unfold cv;rw[e]];exact h.below a
 .have h1:=h.below a;refine⟨rfl,hs,D,?_,?_,h.o,h.e⟩
  .exact h1.m.setOther h.o.2.2.2.1 _ _
  .rw[show cv C.ho i=ir C.ho k 2 by unfold cv;rw[e,lE b]];exact h1.h.state k b 2
def jnC(C:Co)(r:Int):Co:=if(decide (0<=r)&& !msB C)=true then{C with p:=1,ct:=0,tx:=true,ho:=cv C.ho r}else{C with p:=1,ct:=0,tx:=false}
end
section
variable{w0:World}{M:Nat}{G:Lg}{f1 f3 nm:Nat}{C:Co}{W:World}
def Ar(h:mx w0 M G f1 f3 nm C W)(k:da C.ho.st C.ho.bx)(r:Int)(l:dN C.ho.bx r):ce 220 #[ap M] W fun o w'=>o=rT (.tuple #[])/\mx w0 M G f1 f3 nm (jnC C r) w':=by
 have i:=hI (h.best k r l);have D:=h.m.cell 0 (ap G.P) rfl;have d:Hid (∀V,mx w0 M G f1 f3 nm C V->ce 252 #[ap M] V fun o w'=>o=rT (bO (msB C))/\mx w0 M G f1 f3 nm C w'/\Bl V w'):=fun V f=>oa f;have A:Hid (∀V X,mx w0 M G f1 f3 nm X V->ce 253 #[ap G.P,I J r] V fun o w'=>o=rT (.tuple #[])/\mx w0 M G f1 f3 nm {X with ho:=cv X.ho r} w'):=fun V X f=>f.send r;clear h k l;obtain⟨b,B⟩:∃b,decide (0<=r)=b:=⟨_,rfl⟩
 obtain⟨m,e⟩:∃b,msB C=b:=⟨_,rfl⟩
 have c:Hid (jnC C r=if(b&& !m)=true then{C with p:=1,ct:=0,tx:=true,ho:=cv C.ho r}else{C with p:=1,ct:=0,tx:=false}):=by show _=_;unfold jnC;rw[B,e]
 rw[e]at d;clear e;go_enter func220,ntmps220;go_wp2_with fail;refine i.o.mono ?_;rintro o E ⟨rfl,h1⟩;have g:=ar h1;have s:=h1.m.cell 3 (I J C.p) rfl;have t:=h1.m.cell 4 (I J C.ct) rfl;have u:=h1.m.cell 9 (bO C.tx) rfl;have v:=h1.m.free 3;have w:=h1.m.free 4;have x:=h1.m.free 9;have n:=h1.m.cell 0 (ap G.P) rfl;clear h1 i D;cases b
 .have H3:=hI ((((g.o.set 3 (I J 1) {C with p:=1} rfl rfl).set 4 (I J 0) {C with p:=1,ct:=0} rfl rfl).set 9 (bO false) {C with p:=1,ct:=0,tx:=false} rfl rfl));go_wp2_with fail;refine bN ?_
  exact⟨rfl,by rw[c.o];exact H3.o⟩
 .go_wp2_with fail;refine(d.o _ g.o).mono ?_;rintro o H ⟨rfl,a,_⟩;have H2:=ar a;clear s t u v w x n;have s:=a.m.cell 3 (I J C.p) rfl;have t:=a.m.cell 4 (I J C.ct) rfl;have u:=a.m.cell 9 (bO C.tx) rfl;have v:=a.m.free 3;have w:=a.m.free 4;have x:=a.m.free 9;have n:=a.m.cell 0 (ap G.P) rfl;clear a d;cases m
  .have H3:=hI ((((H2.o.set 3 (I J 1) {C with p:=1} rfl rfl).set 4 (I J 0) {C with p:=1,ct:=0} rfl rfl).set 9 (bO true) {C with p:=1,ct:=0,tx:=true} rfl rfl));go_wp2_with fail;refine(A.o _ _ H3.o).mono ?_;rintro o K ⟨rfl,j⟩;have y:=ar j;clear j;go_wp2_with fail;refine bN ?_
   exact⟨rfl,by rw[c.o];exact y.o⟩
  .have H3:=hI ((((H2.o.set 3 (I J 1) {C with p:=1} rfl rfl).set 4 (I J 0) {C with p:=1,ct:=0} rfl rfl).set 9 (bO false) {C with p:=1,ct:=0,tx:=false} rfl rfl));go_wp2_with fail;refine bN ?_
   exact⟨rfl,by rw[c.o];exact H3.o⟩
def gpC(C:Co)(bit r:Int):Co:=if bit=0 then(if C.ct<2 then ovC C else jnC C r)else if C.ct+1=3 then lgC {C with ct:=C.ct+1}else{C with ct:=C.ct+1}
def CG(h:mx w0 M G f1 f3 nm C W)(bit:Int)(j:0<=C.ct/\C.ct<=200)(k:da C.ho.st C.ho.bx)(r:Int)(l:dN C.ho.bx r):ce 183 #[ap M,I J bit] W fun o w'=>o=rT (.tuple #[])/\mx w0 M G f1 f3 nm (gpC C bit r) w':=by
 have f:=hI h;have p:=hI (Ar h k r l);have v:=h.m.cell 4 (I J C.ct) rfl;have w:=h.m.free 4;clear h k l;have u:=cR j;clear j;have g:=hI ((f.o.set 4 (I J (C.ct+1)) {C with ct:=(C.ct+1)} rfl rfl));obtain⟨b,e,_,fb⟩:=eqB bit 0;obtain⟨c,s,fc⟩:=ltB C.ct 2;obtain⟨d,t,_,i⟩:=eqB (C.ct+1) 3;go_enter func183,ntmps183;cases b
 .cases d
  .have HR:Hid (gpC C bit r={C with ct:=C.ct+1}):=by show _=_;unfold gpC;rw[QV (by simpa using fb.o),QV (by simpa using i.o)]
   go_wp2_with fail;refine bN ?_
   exact⟨rfl,by rw[HR.o];exact g.o⟩
  .have HR:Hid (gpC C bit r=lgC {C with ct:=C.ct+1}):=by show _=_;unfold gpC;rw[QV (by simpa using fb.o),QW (by simpa using i.o)]
   go_wp2_with fail;refine(xr g.o).mono ?_;rintro o n ⟨rfl,h1⟩;have a:=ar h1;clear h1;go_wp2_with fail;refine bN ?_
   exact⟨rfl,by rw[HR.o];exact a.o⟩
 .cases c
  .have HR:Hid (gpC C bit r=jnC C r):=by show _=_;unfold gpC;rw[QW (by simpa using fb.o),QV (by simpa using fc.o)]
   go_wp2_with fail;refine(p.o).mono ?_;rintro o n ⟨rfl,h1⟩;have a:=ar h1;clear h1;go_wp2_with fail;refine bN ?_
   exact⟨rfl,by rw[HR.o];exact a.o⟩
  .have HR:Hid (gpC C bit r=ovC C):=by show _=_;unfold gpC;rw[QW (by simpa using fb.o),QW (by simpa using fc.o)]
   go_wp2_with fail;refine(gO f.o).mono ?_;rintro o n ⟨rfl,h1⟩;have a:=ar h1;clear h1;go_wp2_with fail;refine bN ?_
   exact⟨rfl,by rw[HR.o];exact a.o⟩
def aJ(C:Co)(bit r:Int):Co:=if C.p=0 then idC C bit else if C.p=2 then flC C bit else if C.p=3 then waC C bit else if C.p=4 then dlC C bit else if C.p=5 then gpC C bit r else if C.p=6 then suC C bit else if C.p=7 then ofC C bit else C
end
section
variable{w0:World}{M:Nat}{G:Lg}{f1 f3 nm:Nat}{C:Co}{W:World}
def gN(h:mx w0 M G f1 f3 nm C W)(bit:Int)(Q:World->Prop)(n:Nat)(d:C.p=0/\n=178\/C.p=1/\n=179\/C.p=2/\n=180\/C.p=3/\n=181\/C.p=4/\n=182\/C.p=5/\n=183\/C.p=6/\n=184\/C.p=7/\n=185)(a:∀X,mx w0 M G f1 f3 nm C X->ce n #[ap M,I J bit] X fun o w'=>o=rT (.tuple #[])/\Q w'):ce 354 #[ap M,I J bit] W fun o w'=>o=rT (.tuple #[])/\Q w':=by
 have c:=ar (a _ (h.below (bW _ _).drew));have f:=h.m.cell 3 (I J C.p) rfl;have i:=h.m.cell 24 (.func (.func 178) #[] #[]) rfl;have j:=h.m.cell 27 (.func (.func 179) #[] #[]) rfl;have k:=h.m.cell 30 (.func (.func 180) #[] #[]) rfl;have l:=h.m.cell 33 (.func (.func 181) #[] #[]) rfl;have r:=h.m.cell 36 (.func (.func 182) #[] #[]) rfl;have s:=h.m.cell 39 (.func (.func 183) #[] #[]) rfl;have t:=h.m.cell 42 (.func (.func 184) #[] #[]) rfl;have u:=h.m.cell 45 (.func (.func 185) #[] #[]) rfl;clear h a;rcases d with⟨e,rfl⟩|⟨e,rfl⟩|⟨e,rfl⟩|⟨e,rfl⟩|⟨e,rfl⟩|⟨e,rfl⟩|⟨e,rfl⟩|⟨e,rfl⟩
 all_goals
  rw[e]at f;clear e;go_enter func354,ntmps354;go_wp2_with fail;go_region_with ((first|go_at_call 178|go_at_call 179|go_at_call 180|go_at_call 181|go_at_call 182|go_at_call 183|go_at_call 184|go_at_call 185);refine c.o.mono ?_;rintro o g ⟨rfl,h1⟩;have b:=ar h1;clear h1)
  all_goals(
   go_wp2_with fail;refine bN ?_
   exact⟨rfl,b.o⟩)
end
section
variable{w0:World}{M:Nat}{G:Lg}{f1 f3 nm:Nat}{C:Co}{W:World}
def cH.ct{C:Co}(h:cH C):0<=C.ct/\C.ct<=200:=by
 have h1:=h.m.ct;unfold rLo rHi at h1;constructor
 .have h2:=h1.1;split at h2<;>omega
 .have h2:=h1.2;clear h1;split at h2
  .omega
  split at h2
  .omega
  split at h2
  .omega
  split at h2
  .omega
  split at h2
  .omega
  split at h2<;>omega
def wK(h:mx w0 M G f1 f3 nm C W)(bit r:Int)(b:cH C)(h1:C.p≠1)(i:dN C.ho.bx r):ce 354 #[ap M,I J bit] W fun o w'=>o=rT (.tuple #[])/\mx w0 M G f1 f3 nm (aJ C bit r) w':=by
 have c:=b.ct;have f:=b.m.te;have d:=b.m.re;have j:=b.m.rn;have g:=b.h.bx.wf;have k:=b.h.bx;have n:=b.m.p;have l:C.p=0\/C.p=2\/C.p=3\/C.p=4\/C.p=5\/C.p=6\/C.p=7:=om;rcases l with e|e|e|e|e|e|e
 .rw[show aJ C bit r=idC C bit by unfold aJ;simp[e]];exact gN h bit _ _ (by simp[e]) (fun X a=>Aw a bit)
 .rw[show aJ C bit r=flC C bit by unfold aJ;simp[e]];exact gN h bit _ _ (by simp[e]) (fun X a=>xH a bit c f d g)
 .rw[show aJ C bit r=waC C bit by unfold aJ;simp[e]];exact gN h bit _ _ (by simp[e]) (fun X a=>yt a bit c f d)
 .rw[show aJ C bit r=dlC C bit by unfold aJ;simp[e]];exact gN h bit _ _ (by simp[e]) (fun X a=>xP a bit c f d g)
 .rw[show aJ C bit r=gpC C bit r by unfold aJ;simp[e]];exact gN h bit _ _ (by simp[e]) (fun X a=>CG a bit c k r i)
 .rw[show aJ C bit r=suC C bit by unfold aJ;simp[e]];exact gN h bit _ _ (by simp[e]) (fun X a=>rK a bit c)
 .rw[show aJ C bit r=ofC C bit by unfold aJ;simp[e]];exact gN h bit _ _ (by simp[e]) (fun X a=>zR a bit c j)
def mx.tell(h:mx w0 M G f1 f3 nm C W)(z:Int):ce 356 #[ap M,I J z] W fun o w'=>o=rT (.tuple #[])/\mx w0 M G f1 f3 nm (dB C z) w':=by
 obtain⟨_,_,h⟩:=h;exact(yC h z).mono fun o w' ⟨h1,a⟩=>⟨h1,_,_,a⟩
def mx.told(h:mx w0 M G f1 f3 nm C W):ce 140 #[ap M] W (yy W C):=by
 obtain⟨_,_,h⟩:=h;exact xm W M G.P C h.m (fun Y a=>(h.h.below a).told)
end
open Go renaming World->Wd
set_option maxRecDepth 40000
section
variable{w3 W w2:Wd}{b m1 l1 m2 l2 m3 l3 m4 l4 B:Nat}{C:Co}{p ct lv rn te re c0 c1 c2 c3 lo st:Int}{wk ov ow tx ak:Bool}{b1 b2 b3 b4:Option Addr}{s:Sl}
def Gy(p ct lv:Int)(wk ov ow tx ak:Bool)(rn te re c0 c1 c2 c3:Int)(b1:Option Addr)(m1 l1:Nat)(b2:Option Addr)(m2 l2:Nat)(b3:Option Addr)(m3 l3:Nat)(b4:Option Addr)(m4 l4:Nat)(lo st:Int):(#[I J p,I J ct,I J lv,bO wk,bO ov,bO ow,bO tx,bO ak,I J rn,I J te,I J re,I J c0,I J c1,I J c2,I J c3,sL b1 m1 l1,sL b2 m2 l2,sL b3 m3 l3,sL b4 m4 l4,I J lo,I J st]:Array Value).all (·.oneCell')=true:=
 Qv (by simp[Value.oneCell'])
def Az(w:Wd)(C A B:Obj):(((w.alloc C).alloc A).alloc B).heap[w.heap.size+1]?=sQ A:=by
 rw[Below.heap_alloc _ _ _ pQ];have:=Qy (w.alloc C) A;simpa using this
def uG(w:Wd)(C A B:Obj):(((w.alloc C).alloc A).alloc B).heap[w.heap.size+1+1]?=sQ B:=by
 have:=Qy ((w.alloc C).alloc A) B;simpa using this
def Fu(h:w2.heap[b]?=sQ (.cells [I J p,I J ct,I J lv,bO wk,bO ov,bO ow,bO tx,bO ak,I J rn,I J te,I J re,I J 0,I J 0,I J 0,I J 0,sL nn 0 0,sL nn 0 0,sL nn 0 0,sL nn 0 0,I J 0,I J 0].toArray 52))(e:World.setCells w2 b 11 [I J c0,I J c1,I J c2,I J c3,sL b1 m1 l1,sL b2 m2 l2,sL b3 m3 l3,sL b4 m4 l4,I J lo,I J st]=w3):w3.heap[b]?=sQ (.cells [I J p,I J ct,I J lv,bO wk,bO ov,bO ow,bO tx,bO ak,I J rn,I J te,I J re,I J c0,I J c1,I J c2,I J c3,sL b1 m1 l1,sL b2 m2 l2,sL b3 m3 l3,sL b4 m4 l4,I J lo,I J st].toArray 52):=by
 subst e;exact fC b 52 [I J c0,I J c1,I J c2,I J c3,sL b1 m1 l1,sL b2 m2 l2,sL b3 m3 l3,sL b4 m4 l4,I J lo,I J st] zX [I J p,I J ct,I J lv,bO wk,bO ov,bO ow,bO tx,bO ak,I J rn,I J te,I J re] [] w2 rfl h
def AW{a:Nat}{l:Array Value}{c:List Value}{o:Nat}(h:w2.heap[b]?=sQ (.cells l 52))(e:World.setCells w2 a o c=w3)(d:b≠a:=by omega):w3.heap[b]?=sQ (.cells l 52):=by
 subst e;exact(sO a b d c w2 o).trans h
def Ft{a:Wd}(h:w3.heap[b]?=sQ (.cells zY.toArray 52))(e:World.setCells w3 b 0 [I J p,I J ct,I J lv,bO wk,bO ov,bO ow,bO tx,bO ak,I J rn,I J te,I J re,I J c0,I J c1,I J c2,I J c3,sL b1 m1 l1,sL b2 m2 l2,sL b3 m3 l3,sL b4 m4 l4,I J lo,I J st]=a):a.heap[b]?=sQ (.cells [I J p,I J ct,I J lv,bO wk,bO ov,bO ow,bO tx,bO ak,I J rn,I J te,I J re,I J c0,I J c1,I J c2,I J c3,sL b1 m1 l1,sL b2 m2 l2,sL b3 m3 l3,sL b4 m4 l4,I J lo,I J st].toArray 52):=by
 subst e;exact fC b 52 [I J p,I J ct,I J lv,bO wk,bO ov,bO ow,bO tx,bO ak,I J rn,I J te,I J re,I J c0,I J c1,I J c2,I J c3,sL b1 m1 l1,sL b2 m2 l2,sL b3 m3 l3,sL b4 m4 l4,I J lo,I J st] zY [] [] w3 rfl h
def mR(tmps:Array Value)(w:Wd)(b:Nat)(V:Value)(a:tmps.getD 2 undef=ap b)(c:(loadVar 52 ⟨b,0,nn⟩).run Tp w= .ok V w):(results Tryz.f25 tmps).run Tp w= .ok V w:=by
 simp only[Array.getD_eq_getD_getElem?]at a;simp[results,results25,a,asAddr,c]
def D9(w:Wd)(C:Co)(s:Sl)(h:bj w C.ho s)(D:C.ho.le 1048576):ce 25 #[aG (coL C s).toArray] w fun o w'=>∃a:Wh,o=rT (aG (coL C a.sl).toArray)/\St w.heap.size w' (fun W=>bj W C.ho a.sl)/\whS w.heap.size w'.heap.size w' a/\whD a/\eB a.sl/\Bl w w':=by
 have K:Hid (∀X,Bl w X->w.heap.size+3<=X.heap.size->ce 76 #[hoV C.ho s] X fun o w'=>∃a:Wh,o=rT (hoV C.ho a.sl)/\(St (w.heap.size+3) w' (fun W=>bj W C.ho a.sl)/\whS (w.heap.size+3) w'.heap.size w' a/\whD a/\eB a.sl)/\Bl w w'/\Bl X w'):=by
  intro X j E;rw[gC];refine(Hv X C.ho s (h.below j) D).mono ?_;rintro o w' ⟨a,rfl,h1,i,N,O,u⟩;exact⟨a,by rw[gC],⟨h1.mono E,i.mono E (nR _),N,O⟩,j.trans (u.mono j.size),u⟩
 clear h D;show ce 25 #[coV C s] w _;obtain⟨p,ct,lv,wk,ov,ow,tx,ak,rn,te,re,⟨c0,c1,c2,c3,M,bx,ff,qu,lo,st⟩⟩:=C;obtain⟨a1,n1,k1,a2,n2,k2,a3,n3,k3,a4,n4,k4⟩:=s;go_enter func25,ntmps25;go_wp2_with(first|(go_at_call 76;refine(K.o _ (by(repeat refine Below.setCell ?_ (by simp;try omega) _);exact(Zw.alloc pQ _).alloc (by simp;omega) _) pQ).mono ?_;rintro o w2 ⟨a,rfl,t,k,e⟩;have l:Hid (w2.heap[w.heap.size+1+1]?=sQ (.cells [I J p,I J ct,I J lv,bO wk,bO ov,bO ow,bO tx,bO ak,I J rn,I J te,I J re,I J 0,I J 0,I J 0,I J 0,sL nn 0 0,sL nn 0 0,sL nn 0 0,sL nn 0 0,I J 0,I J 0].toArray 52)):=(e.block (w.heap.size+1+1) pQ).trans (uG w _ _ _);have n:Hid (w2.heap[w.heap.size+1]?=sQ (.cells zY.toArray 52)):=(e.block (w.heap.size+1) pQ).trans (Az w _ _ _);have L:Hid _:=t;have H:Hid _:=k;clear t k e)|(refine Zs 50 #[I J c0,I J c1,I J c2,I J c3,sL a.sl.a1 a.sl.n1 a.sl.k1,sL a.sl.a2 a.sl.n2 a.sl.k2,sL a.sl.a3 a.sl.n3 a.sl.k3,sL a.sl.a4 a.sl.n4 a.sl.k4,I J lo,I J st] (fN l.o 11 10 pQ) yJ (zH _ _ _ _ _ _ _ _ _ _ _ _ _ _ _ _ _ _) ?_;generalize y:World.setCells w2 (w.heap.size+1+1) 11 _=w3;have d:Hid (World.setCells w2 (w.heap.size+1+1) 11 [I J c0,I J c1,I J c2,I J c3,sL a.sl.a1 a.sl.n1 a.sl.k1,sL a.sl.a2 a.sl.n2 a.sl.k2,sL a.sl.a3 a.sl.n3 a.sl.k3,sL a.sl.a4 a.sl.n4 a.sl.k4,I J lo,I J st]=w3):=y;clear y)|(refine Zi 52 [I J p,I J ct,I J lv,bO wk,bO ov,bO ow,bO tx,bO ak,I J rn,I J te,I J re,I J c0,I J c1,I J c2,I J c3,sL a.sl.a1 a.sl.n1 a.sl.k1,sL a.sl.a2 a.sl.n2 a.sl.k2,sL a.sl.a3 a.sl.n3 a.sl.k3,sL a.sl.a4 a.sl.n4 a.sl.k4,I J lo,I J st] (cd (Fu l.o d.o)) underlying52 rJ ?_)|(refine Zs 52 #[I J p,I J ct,I J lv,bO wk,bO ov,bO ow,bO tx,bO ak,I J rn,I J te,I J re,I J c0,I J c1,I J c2,I J c3,sL a.sl.a1 a.sl.n1 a.sl.k1,sL a.sl.a2 a.sl.n2 a.sl.k2,sL a.sl.a3 a.sl.n3 a.sl.k3,sL a.sl.a4 a.sl.n4 a.sl.k4,I J lo,I J st] (fN (AW n.o d.o) 0 21 pQ) rJ (Gy _ _ _ _ _ _ _ _ _ _ _ _ _ _ _ _ _ _ _ _ _ _ _ _ _ _ _ _ _) ?_;generalize A:World.setCells w3 (w.heap.size+1) 0 _=c;have r:Hid (World.setCells w3 (w.heap.size+1) 0 [I J p,I J ct,I J lv,bO wk,bO ov,bO ow,bO tx,bO ak,I J rn,I J te,I J re,I J c0,I J c1,I J c2,I J c3,sL a.sl.a1 a.sl.n1 a.sl.k1,sL a.sl.a2 a.sl.n2 a.sl.k2,sL a.sl.a3 a.sl.n3 a.sl.k3,sL a.sl.a4 a.sl.n4 a.sl.k4,I J lo,I J st]=c):=A;clear A));have hF:=Ft (AW n.o d.o) r.o;have Q:=Qt (P:=Tp) c (w.heap.size+1) 0 52 [I J p,I J ct,I J lv,bO wk,bO ov,bO ow,bO tx,bO ak,I J rn,I J te,I J re,I J c0,I J c1,I J c2,I J c3,sL a.sl.a1 a.sl.n1 a.sl.k1,sL a.sl.a2 a.sl.n2 a.sl.k2,sL a.sl.a3 a.sl.n3 a.sl.k3,sL a.sl.a4 a.sl.n4 a.sl.k4,I J lo,I J st] _ (cd hF) underlying52 rfl rJ;refine Qp (v:=coV ⟨p,ct,lv,wk,ov,ow,tx,ak,rn,te,re,⟨c0,c1,c2,c3,M,bx,ff,qu,lo,st⟩⟩ a.sl) (mR _ c (w.heap.size+1) _ rfl Q) rfl ?_;have T:=L.o;have f:=d.o;have g:=r.o
 have G:∀x,w.heap.size+3<=x->c.heap[x]?=w2.heap[x]?:=fun x U=>by
  rw[<- g,<- f];exact(sO _ x om _ _ _).trans (sO _ x om _ _ _)
 have S:c.heap.size=w2.heap.size:=by rw[<- g,<- f];exact(sZ ..).trans (sZ ..)
 refine⟨a,rfl,fun W R=>T.1 W (fun x h1 i=>(R x om om).trans (G x h1)),?_,T.2.2.1,T.2.2.2,?_⟩
 .rw[S];exact(T.2.1.same (fun x h1 i=>G x h1)).mono om (nR _)
 .rw[<- g,<- f];exact sW om 0 _ (sW om 11 _ H.o)
def Ad{Q:Nat->Wd->Prop}(c:∀X,Bl W X->ce 88 #[aG (hoL C.ho s).toArray,I J 1] X fun o w'=>∃k:Nat,o=rT (I J (k:Int))/\Q k w'):ce 34 #[aG (coL C s).toArray,I J 1] W fun o w'=>∃k:Nat,o=rT (I J (k:Int))/\Q k w':=by
 have a:Hid (ctS W W.heap.size C s (W.alloc (.cells (coL C s).toArray 52))):=ctS.new W C s;have e:Hid (∀X,Bl W X->ce 88 #[aG (hoL C.ho s).toArray,I J 1] X fun o w'=>∃k:Nat,o=rT (I J (k:Int))/\Q k w'):=c;clear c;go_enter func34,ntmps34
 go_wp2_with(refine ZG 50 a.o.p.hostAt underlying50 (jv C.ho s) ?_)
 refine(e.o _ a.o.b).mono ?_;rintro o w2 ⟨k,rfl,d⟩;have f:Hid (Q k w2):=d;clear d;go_wp2_with fail;go_ret;exact⟨k,rfl,f.o⟩
def Fi(k:Nat)(c:∀X,Bl W X->ce 91 #[aG (hoL C.ho s).toArray,I J 1] X fun o w'=>o=rT (I J (k:Int))/\Bl X w'):ce 37 #[aG (coL C s).toArray,I J 1] W fun o w'=>o=rT (I J (k:Int))/\Bl W w':=by
 have a:Hid (ctS W W.heap.size C s (W.alloc (.cells (coL C s).toArray 52))):=ctS.new W C s;have e:Hid (∀X,Bl W X->ce 91 #[aG (hoL C.ho s).toArray,I J 1] X fun o w'=>o=rT (I J (k:Int))/\Bl X w'):=c;have g:decide ((k:Int)<0)=false:=pQ;clear c;go_enter func37,ntmps37
 go_wp2_with(refine ZG 50 a.o.p.hostAt underlying50 (jv C.ho s) ?_)
 refine(e.o _ a.o.b).mono ?_;rintro o w2 ⟨rfl,d⟩;have f:Hid (Bl W w2):=a.o.b.trans (d.mono a.o.b.size);clear d;go_wp2_with fail;go_ret;exact⟨rfl,f.o⟩
def MKC(B:Nat)(T:Co)(sg:Sl)(w:Wd):Prop:=∀W,(∀x,B<=x->x<w.heap.size->W.heap[x]?=w.heap[x]?)->w.heap.size<=W.heap.size->ce 34 #[aG (coL T sg).toArray,I J 1] W fun o w1=>∃k:Nat,o=rT (I J (k:Int))/\k<=100000000000000/\Below B W w1/\(∀x,w.heap.size<=x->x<W.heap.size->w1.heap[x]?=W.heap[x]?)/\∀W2,(∀x,B<=x->x<w.heap.size->W2.heap[x]?=w1.heap[x]?)->w.heap.size<=W2.heap.size->ce 37 #[aG (coL T sg).toArray,I J 1] W2 fun o w2=>o=rT (I J (k:Int))/\Bl W2 w2
def MKQ.core{T:Co}{g:Sl}{w:Wd}(h:MKQ B T.ho g w)(hB:B<=w.heap.size):MKC B T g w:=by
 intro W l v;refine Ad (fun X a=>?_);refine(h X (fun x h1 c=>(a.block x om).trans (l x h1 c)) (by have:=a.size;omega)).mono ?_;rintro o y ⟨k,rfl,r,h1,c,j⟩;refine⟨k,rfl,r,(a.mono om).trans h1,fun x d e=>(c x d (by have:=a.size;omega)).trans (a.block x e),fun u n t=>?_⟩;exact Fi k (fun i f=>j i (fun x d e=>(f.block x om).trans (n x d e)) (nT t f.size))
def DR{T:Nat}{sx:Wh}(h:whS B T W sx)(hd:whD sx)(i:T<=W.heap.size)(hB:B<=T):ce 34 #[aG (coL C sx.sl).toArray,I J 1] W fun o c=>∃k:Nat,o=rT (I J (k:Int))/\(∀x,T<=x->x<W.heap.size->c.heap[x]?=W.heap[x]?)/\Below B W c/\k<=100000000000000:=by
 refine Ad (fun X a=>?_);refine(DS (H:=C.ho) (h.same fun x h1 d=>a.block x om) hd (by have:=a.size;omega)).mono ?_;rintro o c ⟨k,rfl,h1,d,g⟩;exact⟨k,rfl,fun x e f=>(h1 x e (by have:=a.size;omega)).trans (a.block x f),(a.mono om).trans d,g⟩
def Hz(X:Wd)(C:Co)(s:Sl)(h:bj X C.ho s)(c:C.ho.le 9223372036854775807):ce 11 #[aG (coL C s).toArray,I J 1048576] X fun o w'=>∃z:Int,o=rT (I J z)/\Bl X w'/\(z= -1\/∃a:Nat,z=(a:Int)/\C.ho.le 1048576/\a<=1048576):=by
 rw[<- AZ];exact tJ X C s h c
def Ip(X:Wd)(T:Co)(a s2:Sl)(h1:bj X T.ho a)(c:bj X T.ho s2)(d:T.ho.le 1048576):ce 31 #[aG (coL T a).toArray,aG (coL T s2).toArray] X fun o w'=>o=rT (bO true)/\Bl X w':=by
 rw[<- AZ,<- AZ];exact sX X T a s2 h1 c d
end
def DQ:zCo.ho.le 1048576:=⟨by decide,by decide,by decide,by decide,fun j hj=>(by cases hj),fun j hj=>(by cases hj),fun j hj=>(by cases hj)⟩
end Go.Proofs.YtbbffcolnddcdaaGreatDoor
