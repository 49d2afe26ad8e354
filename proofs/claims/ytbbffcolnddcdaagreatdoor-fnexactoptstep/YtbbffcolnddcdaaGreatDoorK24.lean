import Derived.Test.YtbbffcolnddcdaaGreatDoorK23
import Derived.Deep.RegionLaw
import Derived.Deep.DeepCutAuto
import Derived.Test.YtbbffcolnddcdaaGreatDoorK22
import Derived.Deep.RegionHeld3
namespace Go.Proofs.YtbbffcolnddcdaaGreatDoor
open Go.Proofs.Tryz
open Option renaming none->nn,some->sQ
open Go renaming World->Wd
set_option maxRecDepth 20000
open Go.RowKit
set_option linter.all false
set_option maxHeartbeats 16000000
open Go.Value renaming int->I,slice->sL,bool->bO,pointer->pT,agg->aG
open Go.IntKind renaming i64->J,u32->Zk
open Go.Ending renaming returned->rT
open Go.Proofs.Tryz renaming prog->Tp
structure ptS(w:Wd)(L:List Value)(F:List Value)(W:Wd):Prop where
 p:blk W w.heap.size L 50
 f:blk W (w.heap.size+1) F 53
 r:blk W (w.heap.size+1+1) Z10 50
 b:Bl w W
def ptS.below{w:Wd}{L F:List Value}{W W':Wd}(h:ptS w L F W)(hb:Bl W W'):ptS w L F W':=⟨h.p.below hb,h.f.below hb,h.r.below hb,h.b.trans (hb.mono h.b.size)⟩
def ptS.new(w:Wd)(L F:List Value):ptS w L F (((w.alloc (.cells L.toArray 50)).alloc (.cells F.toArray 53)).alloc (.cells zX.toArray 50)):=by
 refine⟨((blk.new w _ 50).alloc _).alloc _,?_,?_,(Zw.alloc pQ _).alloc (by simp;omega) _⟩
 .have:=(blk.new (w.alloc (.cells L.toArray 50)) F 53).alloc (.cells zX.toArray 50);simpa using this
 .have:=blk.new ((w.alloc (.cells L.toArray 50)).alloc (.cells F.toArray 53)) Z10 50;have e:((w.alloc (.cells L.toArray 50)).alloc (.cells F.toArray 53)).heap.size=w.heap.size+1+1:=pQ;rw[e]at this;exact this
def cj.other{e:Type}{F:Rc e}{w w':Wd}{B E d g k q:Nat}{rs:List e}(h:cj F w B E d g k rs)(a:∀b,b≠q->w'.heap[b]?=w.heap[b]?)(n:g≠q)(hd:∀p∈rs,F.gd p≠q)(r:w.heap.size<=w'.heap.size):cj F w' B E d g k rs:=by
 refine⟨oK h.own (a g n),fun p c=>?_⟩;obtain⟨f,i,j,l⟩:=h.dat p c;exact⟨f.other (a _ (hd p c)),i,j,nL l r⟩
def quP(c3:Int)(qu:List R8)(e:R8):List R8:=if(qu.length:Int)<c3 then qu++[e]else qu
def loP(c3:Int)(qu:List R8)(lo:Int):Int:=if(qu.length:Int)<c3 then lo else if lo<100000 then lo+1 else lo
def pH(H:Ho)(e:R8):Ho:={H with qu:=quP H.c3 H.qu e,lo:=loP H.c3 H.qu H.lo}
def qSl(s:Sl)(g n k:Nat):Sl:={s with a4:=be g,n4:=n,k4:=k}
def sE(w:Wd)(H:Ho)(s:Sl)(B u:Nat)(rs:List (R8 × Nat × Nat))(x y z:Int)(e:Bool)(i:Nat)(r:Bool)(d:Int)(K:Option Addr)(c:Nat)(l:List Nat)(Y:s.a4=be u)(W:(s.n4:Int)<H.c3)(hn:s.n4<=1000)(hO:cj rc8 w B 212 8 u s.k4 rs)(a5:rs.length=s.n4)(hB:B<=w.heap.size)(hf:iB w K l.length c l)(hm:l.length<=1048576):ce 163 #[aG (hoL H s).toArray,I J x,I J y,I J z,frV e i r d K l.length c] w fun o w'=>∃a j g A,o=rT (aG (hoL H (qSl s a (s.n4+1) j)).toArray)/\cj rc8 w' B 212 8 a j (rs++[(⟨x,y,z,e,i,r,d,l⟩,g,A)])/\(∀q,q≠u->q<w.heap.size->w'.heap[q]?=w.heap[q]?)/\(a=u\/w.heap.size<=a)/\w.heap.size<=g/\Below B w w':=by
 have E:=ptS.new w (hoL H s) [bO e,I Zk (i:Int),bO r,I J d,sL K l.length c];have n:Hid (cj rc8 w B 212 8 u s.k4 rs/\rs.length=s.n4/\B<=w.heap.size/\iB w K l.length c l/\l.length<=1048576):=⟨hO,a5,hB,hf,hm⟩
 have x3:=E.p.cell 3 _ rfl;have x7:=E.p.cell 7 _ rfl;rw[Y]at x7;have HA:Hid (s.a4=be u):=Y;have f0:=E.f.cell 0 _ rfl;have f1:=E.f.cell 1 _ rfl;have f2:=E.f.cell 2 _ rfl;have f3:=E.f.cell 3 _ rfl;have f4:=E.f.cell 4 _ rfl;have G:Hid (ptS w (hoL H s) [bO e,I Zk (i:Int),bO r,I J d,sL K l.length c] _):=E;clear E hO a5 hB hf Y hm;go_enter func163,ntmps163
 go_wp2_with fail;generalize hV:World.alloc (World.alloc (World.alloc w _) _) _=v at*;clear hV;go_region_law
  (first|(go_simp;go_at_call 104;refine(cM v.drew e i r d K l.length c l (n.o.2.2.2.1.below (G.o.b.trans ((bW _ _).drew.mono G.o.b.size))) n.o.2.2.2.2).mono ?_;rintro o wc ⟨g,A,rfl,⟨q1,q2,q3,q4⟩,a2⟩;have O:Hid (v.heap.size<=g/\g<wc.heap.size/\iB wc (be g) l.length A l):=⟨q1,q2,q3.now⟩;have S:Hid (Bl v wc):=(bW _ _).drew.trans a2;have t:Hid (ptS w (hoL H s) [bO e,I Zk (i:Int),bO r,I J d,sL K l.length c] (wc.alloc (.cells #[I J x,I J y,I J z,bO e,I Zk (i:Int),bO r,I J d,sL (be g) l.length A] 212))):=G.o.below (S.o.alloc S.o.size _);have a0:Hid (cj rc8 (wc.alloc (.cells #[I J x,I J y,I J z,bO e,I Zk (i:Int),bO r,I J d,sL (be g) l.length A] 212)) B 212 8 u s.k4 rs):=n.o.1.below t.o.b;have y6:=(G.o.below S.o).p.cell 7 _ rfl;have y7:=t.o.p.cell 7 _ rfl;rw[HA.o]at y6 y7;clear q1 q2 q3 q4 a2;go_wp2_with fail)|(refine gJ (.tmp 27) (.tmp 34) 48 212 _ 8 72 info212 underlying48 rfl (by decide) (by decide) (by rfl) B u s.n4 s.k4 (rs.flatMap rc8.enc) (by rfl) (by have:=a0.o.own;rw[n.o.2.1]at this;exact this) wc.heap.size [I J x,I J y,I J z,bO e,I Zk (i:Int),bO r,I J d,sL (be g) l.length A] (by rfl) rfl (blk.new wc [I J x,I J y,I J z,bO e,I Zk (i:Int),bO r,I J d,sL (be g) l.length A] 212) (zG _ _ _ _ _ _ _ _ _ _) om (nT n.o.2.2.1 t.o.b.size) ?_;intro a j C a3 M Z a7;have a8:=n.o.1.lt;have HX:Hid (cj rc8 C B 212 8 a j (rs++[(⟨x,y,z,e,i,r,d,l⟩,g,A)])):=a0.o.snoc (⟨x,y,z,e,i,r,d,l⟩,g,A) (O.o.2.2.below Zw) (by show B<=g;have:=O.o.1;have:=G.o.b.size;omega) (by show g≠u;have:=O.o.1;have:=G.o.b.size;omega) (by show g<_;have:=O.o.2.1;simp;omega) (by rw[n.o.2.1];exact a3) M Z;have L:Hid ((∀q,q≠u->q<w.heap.size->C.heap[q]?=w.heap[q]?)/\Below B w C/\(a=u\/w.heap.size+3<=a)/\w.heap.size+3<=g):=⟨fun q h1 U=>(M.block q (nL U t.o.b.size) (by intro e;cases e;exact h1 rfl)).trans (t.o.b.block q U),(t.o.b.mono n.o.2.2.1).grown M (nT n.o.2.2.1 t.o.b.size) (by intro k e;cases e;exact a8.1),(by have:=G.o.r.lt;have:=S.o.size;rcases Z with e|e;(exact qp e);(right;rw[e];simp;omega)),(by have:=G.o.r.lt;have:=O.o.1;omega)⟩;have D:=t.o.p.kept (M.block _ t.o.p.lt (by intro e;cases e;omega));have hr:=t.o.r.kept (M.block _ t.o.r.lt (by intro e;cases e;omega));have xq:=D.cell 7 _ rfl;have fq:=D.free 7;have X:Hid (blk (C.setCell ⟨w.heap.size,7,nn⟩ (sL (be a) (s.n4+1) j)) w.heap.size (hoL H (qSl s a (s.n4+1) j)) 50/\blk (C.setCell ⟨w.heap.size,7,nn⟩ (sL (be a) (s.n4+1) j)) (w.heap.size+1+1) Z10 50):=⟨D.set 7 _,hr.setOther om _ _⟩;clear a3 M Z a7 D hr))
 all_goals
  clear xq fq y6 y7 x3 x7 f0 f1 f2 f3 f4;have o7:=fun q(W:q≠w.heap.size)=>Ql C ⟨w.heap.size,7,nn⟩ q (sL (be a) (s.n4+1) j) W;have z7:(C.setCell ⟨w.heap.size,7,nn⟩ (sL (be a) (s.n4+1) j)).heap.size=C.heap.size:=pQ;have b7:=L.o.2.1.setCell (p:=⟨w.heap.size,7,nn⟩) (by exact n.o.2.2.1) (sL (be a) (s.n4+1) j);generalize C.setCell ⟨w.heap.size,7,nn⟩ (sL (be a) (s.n4+1) j)=N at*;have R:Hid ((∀q,q≠w.heap.size->N.heap[q]?=C.heap[q]?)/\N.heap.size=C.heap.size/\Below B w N):=⟨o7,z7,b7⟩
  clear o7 z7 b7;go_wp2_with(first|(refine ZG 50 X.o.1.load underlying50 (fj _ _) ?_)|(refine Zs 50 (hoL H (qSl s a (s.n4+1) j)).toArray (X.o.2.there 0 10 (by simp[Z10])) (nO _ _) (gZ _ _) ?_;generalize a1:World.setCells _ (w.heap.size+1+1) 0 _=Q;have a6:Hid (World.setCells N (w.heap.size+1+1) 0 (hoL H (qSl s a (s.n4+1) j))=Q):=a1;clear a1))
  have T:=a6.o;have hF:blk Q (w.heap.size+1+1) (hoL H (qSl s a (s.n4+1) j)) 50:=T ▸ (by simpa using blk.put [] Z10 [] (hoL H (qSl s a (s.n4+1) j)) (by simpa using X.o.2) rfl);refine bC results163 (Qt (P:=Tp) Q (w.heap.size+1+1) 0 50 _ _ hF.load underlying50 rfl (fj _ _)) ?_;have o8:∀q,q≠w.heap.size+1+1->Q.heap[q]?=N.heap[q]?:=fun q W=>by rw[<- T];exact sO _ q W _ _ _
  have z8:Q.heap.size=N.heap.size:=by rw[<- T];exact sZ ..
  have hd:∀p∈rs++[((⟨x,y,z,e,i,r,d,l⟩:R8),g,A)],rc8.gd p≠w.heap.size/\rc8.gd p≠w.heap.size+1+1:=fun p D=>by
   rcases List.mem_append.1 D with h|h
   .have:=(n.o.1.dat p h).2.2.2;omega
   .rw[List.mem_singleton.1 h];have:=L.o.2.2.2;exact⟨by show g≠_;omega,by show g≠_;omega⟩
  have hg:a≠w.heap.size/\a≠w.heap.size+1+1:=by have:=L.o.2.2.1;omega
  refine⟨a,j,g,A,rfl,(HX.o.other R.o.1 hg.1 (fun p D=>(hd p D).1) (by rw[R.o.2.1];exact nR _)).other o8 hg.2 (fun p D=>(hd p D).2) (by rw[z8];exact nR _),fun q h1 U=>(o8 q om).trans ((R.o.1 q om).trans (L.o.1 q h1 U)),by have:=L.o.2.2.1;omega,by have:=L.o.2.2.2;omega,?_⟩;rw[<- T];exact sW (by have:=n.o.2.2.1;omega) 0 _ R.o.2.2
def sF(w:Wd)(H:Ho)(s:Sl)(x y z:Int)(e:Bool)(i:Nat)(r:Bool)(d:Int)(j:Option Addr)(c:Nat)(l:List Nat)(G:H.c3<=(s.n4:Int))(f:0<=H.lo/\H.lo<=100000):ce 163 #[aG (hoL H s).toArray,I J x,I J y,I J z,frV e i r d j l.length c] w fun o w'=>o=rT (aG (hoL {H with lo:=if H.lo<100000 then H.lo+1 else H.lo} s).toArray)/\Bl w w':=by
 have g:=ptS.new w (hoL H s) [bO e,I Zk (i:Int),bO r,I J d,sL j l.length c];have M:=g.p.cell 3 _ rfl;have N:=g.p.cell 7 _ rfl;have x8:=g.p.cell 8 _ rfl;have f8:=g.p.free 8;have a:Hid (ptS w (hoL H s) [bO e,I Zk (i:Int),bO r,I J d,sL j l.length c] _):=g;have K:decide (H.c3<=(s.n4:Int))=true:=by simpa using G
 have L:IntKind.i64.wrap (H.lo+1)=H.lo+1:=by rw[QC];omega
 clear g f;obtain⟨lo,f⟩:∃lo,lo=if H.lo<100000 then H.lo+1 else H.lo:=⟨_,rfl⟩
 rw[<- f];go_enter func163,ntmps163;go_upto_region 1 with fail
 generalize E:World.alloc (World.alloc (World.alloc w _) _) _=v at*;clear E;go_upto_if 20 with fail
 go_cut [] (fun n=>blk n w.heap.size (hoL {H with lo:=lo} s) 50/\blk n (w.heap.size+1+1) Z10 50/\Bl w n);case first=>
  go_wp2_with fail
  .rw[QW (by assumption)]at f;subst f;go_meet;case rel=>exact⟨a.o.p.set 8 _,a.o.r.setOther om _ _,a.o.b.setCell (by exact nR _) _⟩
  .rw[QV om]at f;subst f;go_meet;case rel=>exact⟨a.o.p,a.o.r,a.o.b⟩
 case rest=>
  obtain⟨h1,u,A⟩:=hcut;have h:Hid (blk wc w.heap.size (hoL {H with lo:=lo} s) 50/\blk wc (w.heap.size+1+1) Z10 50):=⟨h1,u⟩
  have C:Hid (Bl w wc):=A
  clear h1 u A a;go_wp2_with(first|(refine ZG 50 h.o.1.load underlying50 (fj _ _) ?_)|(refine Zs 50 (hoL {H with lo:=lo} s).toArray (h.o.2.there 0 10 (by simp[Z10])) (nO _ _) (gZ _ _) ?_;generalize B:World.setCells _ (w.heap.size+1+1) 0 _=k;have D:Hid (World.setCells wc (w.heap.size+1+1) 0 (hoL {H with lo:=lo} s)=k):=B;clear B))
  have t:=D.o;have hF:blk k (w.heap.size+1+1) (hoL {H with lo:=lo} s) 50:=t ▸ (by simpa using blk.put [] Z10 [] (hoL {H with lo:=lo} s) (by simpa using h.o.2) rfl);refine bC results163 (Qt (P:=Tp) k (w.heap.size+1+1) 0 50 _ _ hF.load underlying50 rfl (fj _ _)) ?_;exact⟨rfl,t ▸ sW om 0 _ C.o⟩
abbrev ev3(x y z:Int):R8:=⟨x,y,z,false,0,false,0,[]⟩
abbrev zHo:Ho:=⟨0,0,0,0,[],[],[],[],0,0⟩
abbrev zSl:Sl:=⟨none,0,0,none,0,0,none,0,0,none,0,0⟩
def DP(W:World):bj W zHo zSl:=⟨⟨rfl,nR _,fun e=>Qj rfl e⟩,⟨rfl,nR _,fun e=>Qj rfl e⟩,⟨rfl,nR _,fun e=>Qj rfl e⟩,⟨rfl,nR _,fun e=>Qj rfl e⟩⟩
open Go.IntKind renaming i64->J
section
variable{W:World}{n g B T k:Nat}{bx:List R8}{hs:Nat->Hd}
abbrev z8:R8:=⟨0,0,0,false,0,false,0,[]⟩
structure bxR(B T g n k:Nat)(bx:List R8)(hs:Nat->Hd)(W:World):Prop where
 len:n=bx.length
 cap:n<=k
 lo:B<=g
 hi:g<T
 row:ay W g (n*8)
 rng:∀j(h:j<bx.length),W.rangeAt g (j*8) (x8 (bx[j],hs j))
 dat:∀j(h:j<bx.length),iB W (hs j).1 (hs j).2.1 (hs j).2.2 bx[j].l/\(((hs j).1=nn/\(hs j).2.1=0)\/∃b,(hs j).1=be b/\B<=b/\b<T/\b≠g)
def iB.none0{W':World}{a:Option Addr}{c:Nat}{l:List Nat}(h:iB W a n c l)(hn:n=0):iB W' a n c l:=⟨h.len,h.cap,h.small,fun hne=>Qj (List.length_pos_iff.2 hne) (by have:=h.len;omega)⟩
def DT{o:Nat}{b:R8}{h:Hd}(hr:W.rangeAt g o (x8 (b,h)))(hd:iB W h.1 h.2.1 h.2.2 b.l):at8 W g o b h.1 h.2.1 h.2.2:=
 ⟨hr 0 _ rfl,hr 1 _ rfl,hr 2 _ rfl,hr 3 _ rfl,hr 4 _ rfl,hr 5 _ rfl,hr 6 _ rfl,hr 7 _ rfl,hd⟩
def bxR.is(h:bxR B T g n k bx hs W):aP W (be g) n k bx:=
 ⟨h.len,h.cap,fun _=>⟨g,0,rfl,fun j hj=>⟨_,_,_,by rw[qg];exact DT (h.rng j hj) (h.dat j hj).1⟩⟩⟩
def i8.bxR{E:Nat}(h:i8 B T E g n k bx W):∃hs,bxR B T g n k bx hs W:=by
 have hi:=h.is;obtain⟨rs,a,v,w,x,y⟩:=h;have A:=a.lt;obtain⟨L,c1,K,N,O,P,Q⟩:=gn a.own (by intro e;cases e);rcases cg a.own with⟨e,_⟩|⟨M,c2,s,_,_,_,C,D⟩
 .cases e
 cases s;subst v;refine⟨fun j=>(rs.map fun p=>((sQ ⟨p.2.1,0,nn⟩,p.1.l.length,p.2.2):Hd)).getD j (nn,0,0),⟨hi.len,hi.cap,A.1,x,by rw[<- w];exact C,fun j b=>?_,fun j b=>?_⟩⟩
 .have hj':j<rs.length:=by simpa using b
  have e:x8 ((rs.map (·.1))[j],(rs.map fun p=>((sQ ⟨p.2.1,0,nn⟩,p.1.l.length,p.2.2):Hd)).getD j (nn,0,0))=rc8.enc rs[j]:=by
   simp[x8,rc8,List.getD,hj']
  rw[e];intro t u d;have G:t<8:=by have:=(List.getElem?_eq_some_iff.mp d).1;simpa[rc8]using this
  have:=D (j*8+t) u (by rw[ln rc8.enc 8 (fun _=>rfl) rs j hj' t G];exact d);rw[qg]at this;exact this
 .have hj':j<rs.length:=by simpa using b
  have c:=ql hj';obtain⟨f,i,r,H⟩:=a.dat rs[j] c;simp only[za,List.getD,List.getElem?_map,Q4 hj',Option.map_some,Option.getD_some];exact⟨f,qt ⟨_,rfl,i,y _ c,r⟩⟩
def bxR.put(h:bxR B T g n k bx hs W)(i:Nat)(hi:i<bx.length)(b:R8)(hd:Hd)(C:iB W hd.1 hd.2.1 hd.2.2 b.l)(w:(hd.1=nn/\hd.2.1=0)\/∃b,hd.1=be b/\B<=b/\b<T/\b≠g):bxR B T g n k (bx.set i b) (fun j=>if j=i then hd else hs j) (aO W g (i*8) (x8 (b,hd))):=by
 have H:=h.len;have E:∀x,x≠g->(aO W g (i*8) (x8 (b,hd))).heap[x]?=W.heap[x]?:=fun x D=>aM g x D _ _ _;have r:∀(a:Hd)(l:List Nat),iB W a.1 a.2.1 a.2.2 l->((a.1=nn/\a.2.1=0)\/∃b,a.1=be b/\B<=b/\b<T/\b≠g)->iB (aO W g (i*8) (x8 (b,hd))) a.1 a.2.1 a.2.2 l:=by
  intro a l h1 A;rcases A with⟨s,v⟩|⟨c,s,v,G,y⟩
  .exact h1.none0 v
  .rw[s]at h1 ⊢;exact h1.other (E c y)
 refine⟨by rw[qE];exact h.len,h.cap,h.lo,h.hi,h.row.setRow _ _ _ _,fun j p=>?_,fun j p=>?_⟩
 .have hj':j<bx.length:=by simpa using p
  by_cases e:j=i
  .subst e;rw[ze,QW rfl];intro t u d;have f:=(List.getElem?_eq_some_iff.mp d).1;have K:t<8:=by simpa[x8]using f
   rw[az g _ _ _ t f ((h.row (j*8+t) om).1)];rw[Q4 f]at d;exact d
  .rw[zh (fun x=>e x.symm),QV e];intro t u d;have f:t<8:=by have:=(List.getElem?_eq_some_iff.mp d).1;simpa[x8]using this
   rw[rO g _ _ _ _ (by simp[x8];omega)];exact h.rng j hj' t u d
 .have hj':j<bx.length:=by simpa using p
  by_cases e:j=i
  .subst e;rw[ze,QW rfl];exact⟨r hd b.l C w,w⟩
  .rw[zh (fun x=>e x.symm),QV e];exact⟨r _ _ (h.dat j hj').1 (h.dat j hj').2,(h.dat j hj').2⟩
def bxR.there(h:bxR B T g n k bx hs W)(i:Nat)(hi:i<bx.length):W.there g (i*8) 8:=fun j hj=>by
 obtain⟨⟨v,hv⟩,hf⟩:=h.row (i*8+j) (by have:=h.len;omega);exact⟨by rw[hv];rfl,hf⟩
def bxR.setX(h:bxR B T g n k bx hs W)(i:Nat)(hi:i<bx.length)(v:Int):bxR B T g n k (bx.set i {bx[i]with x:=v}) hs (W.setCell ⟨g,i*8,nn⟩ (I J v)):=by
 have E:∀x,x≠g->(W.setCell ⟨g,i*8,nn⟩ (I J v)).heap[x]?=W.heap[x]?:=fun x D=>Ql W ⟨g,i*8,nn⟩ x _ D;refine⟨by rw[qE];exact h.len,h.cap,h.lo,h.hi,h.row.setCell _ _,fun j c=>?_,fun j c=>?_⟩
 .have hj':j<bx.length:=by simpa using c
  have w:∀t,j*8+t≠i*8->(W.setCell ⟨g,i*8,nn⟩ (I J v)).cell? ⟨g,j*8+t,nn⟩=W.cell? ⟨g,j*8+t,nn⟩:=fun t s=>Qr _ _ _ _ (by intro e;simp at e<;>omega);intro t u a;have s:t<8:=by have:=(List.getElem?_eq_some_iff.mp a).1;simpa[x8]using this
  by_cases e:j=i
  .subst e;rw[ze]at a;by_cases p:t=0
   .subst p;have y:u=I J v:=by simpa[x8]using a.symm
    subst y;obtain⟨⟨w0,C⟩,_⟩:=h.row (j*8) (by have:=h.len;omega);exact QD _ _ _ C
   .rw[w t om];refine h.rng j hj' t u ?_;rw[<- a];match t,s,p with
    |1,_,_|2,_,_|3,_,_|4,_,_|5,_,_|6,_,_|7,_,_=>rfl
  .rw[zh (fun x=>e x.symm)]at a;rw[w t om];exact h.rng j hj' t u a
 .have hj':j<bx.length:=by simpa using c
  have e:(bx.set i {bx[i]with x:=v})[j].l=bx[j].l:=by
   by_cases e:j=i
   .subst e;rw[ze]
   .rw[zh (fun x=>e x.symm)]
  rw[e];obtain⟨h1,r⟩:=h.dat j hj';refine⟨?_,r⟩;rcases r with⟨d,f⟩|⟨b,d,f,G,A⟩
  .exact h1.none0 f
  .rw[d]at h1 ⊢;exact h1.other (E b A)
end
section
variable{bx:List R8}{H:Ho}
def xg(b:R8):Bool:=b.x==2||b.x==3
def wI(bx:List R8):Nat:=bx.findIdx xg
def bsy.ix{r:Int}(h:bsy bx r):(r= -1/\¬wI bx<bx.length)\/(r=(wI bx:Int)/\wI bx<bx.length):=by
 have e:∀b,xg b=true↔onW b:=fun b=>by simp[xg,onW]
 rcases h with⟨k,c,h1,d,rfl⟩|⟨h1,rfl⟩
 .right;have e:wI bx=k:=by
   unfold wI;rw[List.findIdx_eq c];refine⟨(e _).2 h1,fun j a=>?_⟩;have:=d j om a;rw[<- e]at this;simpa using this
  rw[e];exact⟨rfl,c⟩
 .left;refine⟨rfl,?_⟩
  have:wI bx=bx.length:=List.findIdx_eq_length.2 fun b f=>by
   obtain⟨j,a,rfl⟩:=List.getElem_of_mem f;have:=h1 j a;rw[<- e]at this;simpa using this
  omega
def jQ(h:wI bx<bx.length):bx[wI bx].x=2\/bx[wI bx].x=3:=by
 have e:xg (bx[wI bx])=true:=List.findIdx_getElem (xs:=bx) (p:=xg) (w:=h);generalize bx[wI bx]=b at*;simpa[xg]using e
def dK(H:Ho)(k:Nat):Ho:={H with bx:=H.bx.set k z8}
def ir(H:Ho)(k:Nat)(v:Int):Ho:=if h:k<H.bx.length then{H with bx:=H.bx.set k {H.bx[k]with x:=v} }else H
def bz(H:Ho)(sent:Bool):Ho:=
 if h:wI H.bx<H.bx.length then
  (if sent=true then pH (dK H (wI H.bx)) ⟨1,H.bx[wI H.bx].y,0,H.bx[wI H.bx].e,H.bx[wI H.bx].i,H.bx[wI H.bx].r,H.bx[wI H.bx].d,H.bx[wI H.bx].l⟩
   else if H.bx[wI H.bx].x=3 then pH (dK H (wI H.bx)) (ev3 6 H.bx[wI H.bx].y 0)
   else ir H (wI H.bx) 1)
 else H
def jf{a:Bool}(h:¬wI H.bx<H.bx.length):bz H a=H:=by unfold bz;rw[dif_neg h]
def pA{w:World}(L:List Value)(a:L.length=8):blk (World.setCells (w.alloc (.cells [I J 0,I J 0,I J 0,bO false,I .u32 0,bO false,I J 0,sL none 0 0].toArray 114)) w.heap.size 0 L) w.heap.size L 114/\Bl w (World.setCells (w.alloc (.cells [I J 0,I J 0,I J 0,bO false,I .u32 0,bO false,I J 0,sL none 0 0].toArray 114)) w.heap.size 0 L):=by
 refine⟨?_,sW (nR _) _ _ Zw⟩;have:=blk.put [] [I J 0,I J 0,I J 0,bO false,I .u32 0,bO false,I J 0,sL none 0 0] [] L (w:=w.alloc (.cells [I J 0,I J 0,I J 0,bO false,I .u32 0,bO false,I J 0,sL none 0 0].toArray 114)) (b:=w.heap.size) (T:=114) (blk.new w _ 114) a.symm;simpa using this
abbrev Z8:List Value:=[I J 0,I J 0,I J 0,bO false,I .u32 0,bO false,I J 0,sL none 0 0]
def jA(W:World):iB W none 0 0 []:=⟨rfl,nR _,fun q hq=>(by cases hq),fun h=>Qj rfl h⟩
def yX(H:Ho)(k:Nat)(v:Int)(s:Sl):hoL (ir H k v) s=hoL H s:=by
 unfold ir;split<;>rfl
def lE{k:Nat}(a:k<H.bx.length)(v:Int):ir H k v={H with bx:=H.bx.set k {H.bx[k]with x:=v} }:=by
 unfold ir;rw[dif_pos a]
end
def dP.n4{H:Ho}(h:dP H):H.qu.length<=1000:=by
 have h1:=qJ h.cf;have a:=h.nq;omega
def whS.mono{B T B' T':Nat}{W:World}{s:Wh}(h:whS B T W s)(hB:B'<=B)(hT:T<=T'):whS B' T' W s:=
 ⟨h.f,h.fc,⟨by have:=h.fb.1;omega,by have:=h.fb.2;omega⟩,h.x,h.xb.mono hB hT,h.r,h.rb.mono hB hT,h.q,h.qb.mono hB hT,h.m1,h.m2,h.m3,h.m4⟩
def rB.put{w d a b:World}{H:Ho}{c:Wh}{R:Nat}(h:w.heap.size<=d.heap.size)(hR:R<d.heap.size)(i:St d.heap.size a (fun W=>bj W H c.sl))(j:whS d.heap.size a.heap.size a c)(e:∀x,x≠R->b.heap[x]?=a.heap[x]?)(hs:b.heap.size=a.heap.size):St w.heap.size b (fun W=>bj W H c.sl)/\whS w.heap.size b.heap.size b c:=by
 refine⟨fun W g=>i W (fun x h1 f=>(g x om om).trans (e x om)),?_⟩;rw[hs];exact(j.same (fun x h1 f=>e x om)).mono h (nR _)
def yy(w:World)(C:Co)(o:Ending)(w':World):Prop:=∃s4:Wh,o=rT (aG (coL C s4.sl).toArray)/\St w.heap.size w' (fun W=>bj W C.ho s4.sl)/\whS w.heap.size w'.heap.size w' s4/\whD s4/\whE s4/\Bl w w'
def xm{L:List Value}(w:World)(M P:Nat)(C:Co)(Z:blk w M (mcH P C++(L++prL)) 184)(ht:∀X,Bl w X->ce 199 #[ap P] X (rB X C.ho)):ce 140 #[ap M] w (yy w C):=by
 have HT:Hid (∀X,Bl w X->ce 199 #[ap P] X (rB X C.ho)):=ht;have u:Hid (Bl w (w.alloc (.cells Z21.toArray 52))):=Zw;have k:Hid (blk (w.alloc (.cells Z21.toArray 52)) M (mcH P C++(L++prL)) 184/\blk (w.alloc (.cells Z21.toArray 52)) w.heap.size Z21 52/\Bl w (w.alloc (.cells Z21.toArray 52))):=⟨Z.below u.o,blk.new w _ 52,u.o⟩
 clear Z ht u;go_enter func140,ntmps140;go_wp2_with fail;refine Qu (S:=fun X=>blk X M (mcH P C++(L++prL)) 184/\(∃l:List Value,l.length=21/\blk X w.heap.size l 52)/\Bl w X) kr ?_;have hS:(fun X=>blk X M (mcH P C++(L++prL)) 184/\(∃l:List Value,l.length=21/\blk X w.heap.size l 52)/\Bl w X) (World.drew (w.alloc (.cells Z21.toArray 52))):=⟨k.o.1.below (bW _ _).drew,⟨Z21,rfl,k.o.2.1.below (bW _ _).drew⟩,k.o.2.2.drew⟩
 clear k;change wpAnyH Tp _ _ _ _ _ _ _ (World.drew (w.alloc (.cells Z21.toArray 52)));generalize World.drew (w.alloc (.cells Z21.toArray 52))=t at*;refine tk 0 ?_;refine tk 1 ?_;refine tk 2 ?_;refine tk 3 ?_;refine tk 4 ?_ (hy:=fun W a=>by(have y:=a.1.cell 3 (I J C.p) rfl;go_simp;try rfl));refine tk 5 ?_;refine tk 6 ?_;refine tk 7 ?_;refine tk 8 ?_;refine tk 9 ?_ (hy:=fun W a=>by(have y:=a.1.cell 4 (I J C.ct) rfl;go_simp;try rfl));refine tk 10 ?_;refine tk 11 ?_;refine tk 12 ?_;refine tk 13 ?_;refine tk 14 ?_ (hy:=fun W a=>by(have y:=a.1.cell 5 (I J C.lv) rfl;go_simp;try rfl));refine tk 15 ?_;refine tk 16 ?_;refine tk 17 ?_;refine tk 18 ?_;refine tk 19 ?_ (hy:=fun W a=>by(have y:=a.1.cell 6 (bO C.wk) rfl;go_simp;try rfl));refine tk 20 ?_;refine tk 21 ?_;refine tk 22 ?_;refine tk 23 ?_;refine tk 24 ?_ (hy:=fun W a=>by(have y:=a.1.cell 7 (bO C.ov) rfl;go_simp;try rfl));refine tk 25 ?_;refine tk 26 ?_;refine tk 27 ?_;refine tk 28 ?_;refine tk 29 ?_ (hy:=fun W a=>by(have y:=a.1.cell 8 (bO C.ow) rfl;go_simp;try rfl));refine tk 30 ?_;refine tk 31 ?_;refine tk 32 ?_;refine tk 33 ?_;refine tk 34 ?_ (hy:=fun W a=>by(have y:=a.1.cell 9 (bO C.tx) rfl;go_simp;try rfl));refine tk 35 ?_;refine tk 36 ?_;refine tk 37 ?_;refine tk 38 ?_;refine tk 39 ?_ (hy:=fun W a=>by(have y:=a.1.cell 10 (bO C.ak) rfl;go_simp;try rfl));refine tk 40 ?_;refine tk 41 ?_;refine tk 42 ?_;refine tk 43 ?_;refine tk 44 ?_ (hy:=fun W a=>by(have y:=a.1.cell 11 (I J C.rn) rfl;go_simp;try rfl));refine tk 45 ?_;refine tk 46 ?_;refine tk 47 ?_;refine tk 48 ?_;refine tk 49 ?_ (hy:=fun W a=>by(have y:=a.1.cell 1 (I J C.te) rfl;go_simp;try rfl));refine tk 50 ?_;refine tk 51 ?_;refine tk 52 ?_;refine tk 53 ?_;refine tk 54 ?_ (hy:=fun W a=>by(have y:=a.1.cell 2 (I J C.re) rfl;go_simp;try rfl));refine tk 55 ?_;refine tk 56 ?_;refine tk 57 ?_;refine tk 58 ?_;refine tk 59 ?_ (hy:=fun W a=>by(have y:=a.1.cell 0 (ap P) rfl;go_simp;try rfl));refine al 60 fun B h=>?_;go_simp;refine(HT.o _ hS.2.2).mono ?_;rintro o f ⟨c,rfl,q1,q2,q3,q4,s⟩;have R:(fun X=>blk X M (mcH P C++(L++prL)) 184/\(∃l:List Value,l.length=21/\blk X w.heap.size l 52)/\Bl w X) f:=⟨hS.1.below s,(by obtain⟨l,h1,g⟩:=hS.2.1;exact⟨l,h1,g.below s⟩),hS.2.2.trans (s.mono hS.2.2.size)⟩
 have n:Hid (St t.heap.size f (fun W=>bj W C.ho c.sl)/\whS t.heap.size f.heap.size f c/\whD c/\whE c):=⟨q1,q2,q3,q4⟩
 have A:Hid (w.heap.size<=t.heap.size/\w.heap.size<t.heap.size):=⟨hS.2.2.size,(by obtain⟨l,h1,g⟩:=hS.2.1;exact g.lt)⟩
 clear q1 q2 q3 q4 s;go_wp2_with fail;refine h.out _ _ R (fun r=>?_);clear h B R hS;have hS:=r;clear r;refine tk 61 (v:=aG (coL C c.sl).toArray) ?_ (hy:=fun W a=>by(simp only[coL,hoL];go_simp;try rfl));refine al 62 fun B h=>?_;rw[QW (by rfl)];obtain⟨G,E,D⟩:=hS.2.1;have j:Hid (G.length=21/\blk f w.heap.size G 52):=⟨E,D⟩
 refine QE 52 (.tmp 2) (.tmp 64) rfl w.heap.size 0 (coL C c.sl).toArray rfl rfl (D.there 0 _ (by rw[Q7,cL,E];decide)) (eY C c.sl) (cO C c.sl) ?_;generalize i:World.setCells f w.heap.size 0 _=d
 have O:Hid (M≠w.heap.size):=fun e=>by
  have h1:=hS.1;have g:=j.o.2;rw[e]at h1;have:=h1.symm.trans g;simp at this
 have Y:blk d w.heap.size (coL C c.sl) 52:=by
  rw[<- i];have:=blk.put [] G [] (coL C c.sl) (w:=f) (b:=w.heap.size) (T:=52) (by simpa using j.o.2) (by rw[j.o.1,cL]);simpa using this
 have N:Hid (blk d w.heap.size (coL C c.sl) 52):=Y;clear Y;have H:∀x,x≠w.heap.size->d.heap[x]?=f.heap[x]?:=fun x hx=>by rw[<- i];exact sO _ x hx _ _ _
 have a0:d.heap.size=f.heap.size:=by rw[<- i];exact sZ ..
 have K:Hid (Bl w d):=by rw[<- i];exact sW om 0 _ hS.2.2
 have Q:Hid (St w.heap.size d (fun W=>bj W C.ho c.sl)/\whS w.heap.size d.heap.size d c):=rB.put (w:=w) A.o.1 A.o.2 n.o.1 n.o.2.1 H a0;have U:(fun X=>blk X M (mcH P C++(L++prL)) 184/\(∃l:List Value,l.length=21/\blk X w.heap.size l 52)/\Bl w X) d:=⟨hS.1.kept (H _ O.o),⟨_,cL _ _,N.o⟩,K.o⟩
 clear H a0 i D E;refine h.out _ _ U (fun r=>?_);clear h B U hS r j O A;refine Qs kr ?_ _;go_wp2_with fail;have hL:=Qt (P:=Tp) d w.heap.size 0 52 _ _ N.o.load underlying52 rfl (aV C c.sl);refine bC results140 hL ?_;exact⟨c,rfl,Q.o.1,Q.o.2,n.o.2.2.1,n.o.2.2.2,K.o⟩
def iX(w:World)(C:Co)(s:Sl)(k H R T:Prop)(hv:∀W,Bl w W->ce 125 #[aG (hoL C.ho s).toArray] W fun o w'=>bH o k/\Bl W w')
  (Y:(0<=C.p/\C.p<=7)->∀W,Bl w W->ce 126 #[aG (coL C s).toArray] W fun o w'=>bH o H/\Bl W w')
  (Z:(0<=C.p/\C.p<=7)->∀W,Bl w W->ce 127 #[aG (coL C s).toArray] W fun o w'=>bH o R/\Bl W w')
  (hz:k->∀W,Bl w W->ce 128 #[aG (coL C s).toArray] W fun o w'=>bH o T/\Bl W w') :
  ce 79 #[aG (coL C s).toArray] w fun o w'=>bH o ((0<=C.p/\C.p<=7)/\k/\H/\R/\((C.p=1/\C.tx=true)↔T))/\Bl w w':=by
 have P:=hI hv;have K:=hI Y;have N:=hI Z;have Q:=hI hz;have M:=hI bT;have j:=hI (ctS.new w C s);have y0:=j.o.p.cell 0 (I J C.p) rfl;clear hv Y Z hz;go_enter func79,ntmps79;generalize a0:w.alloc (.cells (coL C s).toArray 52)=W0 at*;by_cases i:0<=C.p/\C.p<=7
 .have din:decide (0<=C.p/\C.p<=7)=true:=by simpa using i
  have L:=hI i;have HC:=hI (K.o i);have HM:=hI (N.o i)
  clear i K N;go_wp2_with(first|(go_at_call 124;refine(M.o _ _ _ _).mono ?_;rintro o w2 ⟨rfl,rfl⟩)|(refine an (by first|rfl|(simp[Region.wanted,yielded];done)|(simp[Region.wanted,yielded];omega)) 50 (.tmp 8) rfl w.heap.size 11 rfl (hoL C.ho s) _ j.o.p.hostAt underlying50 rfl (jv C.ho s) ?_))
  clear a0;refine(P.o _ j.o.b).mono ?_;rintro o w1 ⟨⟨b,rfl,G⟩,U⟩;have n:=hI (j.o.below U);clear U j P y0;cases b
  .go_wp2_with fail;go_ret;exact⟨⟨false,rfl,by simp only[qH,false_iff];rintro⟨_,h,_⟩;exact Qj (G.2 h) pQ⟩,n.o.b⟩
  have r:Hid k:=G.1 rfl;have O:=hI (Q.o r.o);clear G Q;go_wp2_with fail;refine Qu (S:=fun X=>ctS w w.heap.size C s X) kr ?_;have hS:=n.o.below (bW _ _).drew;clear n;change wpAnyH Tp _ _ _ _ _ _ _ (World.drew w1);generalize World.drew w1=v0 at*;refine wU 0 (aG (coL C s).toArray) rfl (Qw (by rfl) 52 (.tmp 1) rfl w.heap.size 0 rfl (coL C s) _ (fun X h=>h.p.load) underlying52 rfl (aV C s)) hS ?_;simp only[Act.put,aA,aB,aC,aD,aE];refine al 1 fun g a=>?_;go_simp;refine(HC.o _ hS.b).mono ?_;rintro o v1 ⟨⟨b,rfl,f⟩,e⟩;have c:=hS.below e;have t:=hI f;clear e f;go_wp2_with fail;refine a.out _ _ c (fun d=>?_);clear a g c hS;have hS:=d;clear d;cases b
  .refine tk 2 ?_;refine tn 3 ?_;refine tn 4 ?_;refine tk 5 ?_;refine tk 6 ?_;refine tn 7 ?_;refine tn 8 ?_;refine tn 9 ?_;refine tn 10 ?_;refine tn 11 ?_;refine tn 12 ?_;refine tn 13 ?_;refine tn 14 ?_;refine tn 15 ?_;refine tn 16 ?_;refine tk 17 ?_;refine tk 18 ?_;refine Qs kr ?_ _;go_wp2_with fail;go_ret;exact⟨⟨_,rfl,by simp only[qH,false_iff];rintro⟨_,_,h,_⟩;exact Qj (t.o.2 h) pQ⟩,hS.b⟩
  refine tk 2 ?_;refine wU 3 (aG (coL C s).toArray) rfl (Qw (by rfl) 52 (.tmp 1) rfl w.heap.size 0 rfl (coL C s) _ (fun X h=>h.p.load) underlying52 rfl (aV C s)) hS ?_;simp only[aZ];refine al 4 fun g a=>?_;go_simp;refine(HM.o _ hS.b).mono ?_;rintro o v2 ⟨⟨b,rfl,f⟩,e⟩;have c:=hS.below e;have u:=hI f;clear e f;go_wp2_with fail;refine a.out _ _ c (fun d=>?_);clear a g c hS;have hS:=d;clear d;cases b
  .refine tk 5 ?_;refine tk 6 ?_;refine tn 7 ?_;refine tn 8 ?_;refine tn 9 ?_;refine tn 10 ?_;refine tn 11 ?_;refine tn 12 ?_;refine tn 13 ?_;refine tn 14 ?_;refine tn 15 ?_;refine tn 16 ?_;refine tk 17 ?_;refine tk 18 ?_;refine Qs kr ?_ _;go_wp2_with fail;go_ret;exact⟨⟨_,rfl,by simp only[qH,false_iff];rintro⟨_,_,_,h,_⟩;exact Qj (u.o.2 h) pQ⟩,hS.b⟩
  refine tk 5 ?_;refine tk 6 ?_;refine wU 7 (aG (coL C s).toArray) rfl (Qw (by rfl) 52 (.tmp 1) rfl w.heap.size 0 rfl (coL C s) _ (fun X h=>h.p.load) underlying52 rfl (aV C s)) hS ?_;simp only[aZ];refine tk 9 ?_;refine tk 10 ?_ (hy:=fun W E=>by(have y:=E.p.cell 0 (I J C.p) rfl;go_simp;try rfl));by_cases l:C.p=1
  .have dp1:(C.p==1)=true:=by simpa using l
   refine tk 11 ?_;refine al 8 fun g a=>?_;go_simp;refine(O.o _ hS.b).mono ?_;rintro o v3 ⟨⟨b,rfl,f⟩,e⟩;have c:=hS.below e;have v:=hI f;clear e f;go_wp2_with fail;refine a.out _ _ c (fun d=>?_);clear a g c hS;have hS:=d;clear d;refine tk 12 ?_;refine tk 13 ?_;refine tk 14 ?_ (hy:=fun W E=>by(have y:=E.p.cell 6 (bO C.tx) rfl;go_simp;try rfl));refine tk 15 ?_;refine tk 16 ?_;refine tk 17 ?_;refine tk 18 ?_;have h1:=t.o.1 pQ;have x:=u.o.1 pQ;have A:=v.o;have B:=r.o;have D:=L.o;refine Qs kr ?_ _;go_wp2_with fail;go_ret;refine⟨⟨_,rfl,?_⟩,hS.b⟩;simp only[h1,x,B,D,true_and,<- A];generalize C.tx=q;cases b<;>cases q<;>simp[l]
  .have dp1:(C.p==1)=false:=by simpa using l
   refine tk 11 ?_;refine al 8 fun g a=>?_;go_simp;refine(O.o _ hS.b).mono ?_;rintro o v3 ⟨⟨b,rfl,f⟩,e⟩;have c:=hS.below e;have v:=hI f;clear e f;go_wp2_with fail;refine a.out _ _ c (fun d=>?_);clear a g c hS;have hS:=d;clear d;refine tk 12 ?_;refine tn 13 ?_;refine tn 14 ?_;refine tk 15 ?_;refine tk 16 ?_;refine tk 17 ?_;refine tk 18 ?_;have h1:=t.o.1 pQ;have x:=u.o.1 pQ;have A:=v.o;have B:=r.o;have D:=L.o;refine Qs kr ?_ _;go_wp2_with fail;go_ret;refine⟨⟨_,rfl,?_⟩,hS.b⟩;simp only[h1,x,B,D,true_and,<- A];cases b<;>simp[l]
 .have din:decide (0<=C.p/\C.p<=7)=false:=by simpa using i
  go_wp2_with(go_at_call 124;refine(M.o _ _ _ _).mono ?_;rintro o w2 ⟨rfl,rfl⟩)
  go_ret;exact⟨⟨false,rfl,by simp only[qH,false_iff];rintro⟨h,_⟩;exact i h⟩,j.o.b⟩
structure cH(C:Co):Prop where
 h:dP C.ho
 m:okM C
 s:(C.p=1/\C.tx=true)↔wrP C.ho.bx
def Ev{p:Int}(h0:¬p<0)(h7:¬7<p):p=0\/p=1\/p=2\/p=3\/p=4\/p=5\/p=6\/p=7:=om
def bj.two{w:Wd}{H:Ho}{s:Sl}(h:bj w H s)(a:dP H):s.n2<=1000:=by
 have h1:=h.bx.len;have b:=a.n2;omega
def Hf(w:Wd)(H:Ho)(s:Sl)(h:bj w H s)(c:dP H):ce 70 #[aG (hoL H s).toArray] w fun o w'=>∃r:Int,o=rT (I J r)/\(0<=r↔wrP H.bx)/\Bl w w':=by
 refine(gW w H s h.bx (h.two c)).mono ?_;rintro o w' ⟨r,rfl,b,a⟩;refine⟨r,rfl,?_,a⟩;have:=rk b;unfold wrP;rw[<- this];omega
def bH.to{o:Ending}{P Q:Prop}(h:bH o P)(e:P↔Q):bH o Q:=by
 obtain⟨b,h1,a⟩:=h;exact⟨b,h1,a.trans e⟩
def sC(w:Wd)(C:Co)(s:Sl)(h:bj w C.ho s)(c:C.ho.le 1048576):ce 43 #[aG (coL C s).toArray] w fun o w'=>bH o (cH C)/\Bl w w':=by
 refine(GG w C s (dP C.ho) (wrP C.ho.bx) (fun W a=>by rw[<- gC];exact Ap W C.ho s (h.below a) c) (fun d W a=>Hf W C.ho s (h.below a) d)).mono ?_;rintro o w' ⟨e,b⟩;exact⟨e.to ⟨fun x=>⟨x.1,x.2.1,x.2.2⟩,fun x=>⟨x.h,x.m,x.s⟩⟩,b⟩
def Il{p:Int}(h:0<=p/\p<=7):∃n,∀W,(Instr.index 179 (aG prL.toArray) (I J p)).run Tp W= .ok (aG #[I J (rLo p),I J (rHi p),.func (.func n) #[] #[]]) W:=by
 rcases Ev (p:=p) om om with rfl|rfl|rfl|rfl|rfl|rfl|rfl|rfl
 .exact⟨_,GO⟩
 .exact⟨_,GN⟩
 .exact⟨_,GM⟩
 .exact⟨_,GL⟩
 .exact⟨_,GK⟩
 .exact⟨_,GJ⟩
 .exact⟨_,GI⟩
 .exact⟨_,GH⟩
def D7(C:Co):vmB C=true↔(((((((((0<=C.lv/\C.lv<=1)/\(C.lv=1->C.p=2/\C.wk=true/\0<C.ct))/\(C.wk=true->C.p=2/\C.ov=false))/\(C.ov=true->C.p=2\/C.p=3\/C.p=4))/\(C.ow=true->C.wk=true/\C.tx=true))/\(C.tx=true->C.p≠7/\C.p≠0))/\(C.p=6->C.tx=true))/\(C.ak=true->C.p=7))):=by
 unfold vmB;simp only[Q3,Bool.not_eq_true'];rw[j1,k5,k6,k7,j5,j6,j7]
def iY(w:Wd)(C:Co)(s:Sl)(h:bj w C.ho s)(j:C.ho.le 1048576):ce 79 #[aG (coL C s).toArray] w fun o w'=>bH o (cH C)/\Bl w w':=by
 have g:∀W,Bl w W->ce 125 #[aG (hoL C.ho s).toArray] W fun o w'=>bH o (dP C.ho)/\Bl W w':=fun W c=>mI W C.ho s (h.below c) j;have i:dP C.ho->∀W,Bl w W->ce 128 #[aG (coL C s).toArray] W fun o w'=>bH o (wrP C.ho.bx)/\Bl W w':=fun k W c=>m8 W C s (h.below c).bx (h.two k);by_cases a:0<=C.p/\C.p<=7
 .obtain⟨n,hix⟩:=Il a;refine(iX w C s (dP C.ho) _ _ (wrP C.ho.bx) g (fun _ W _=>vcG W C s _ _ n hix) (fun _ W _=>vmG W C s) i).mono ?_;rintro o w' ⟨f,d⟩;refine⟨f.to ?_,d⟩;rw[D7];constructor
  .rintro⟨_,hh,⟨t1,t2,t3,t4,t5,t6⟩,⟨⟨⟨⟨⟨⟨⟨v1,v2⟩,v3⟩,v4⟩,v5⟩,v6⟩,v7⟩,v8⟩,hs⟩;refine⟨hh,⟨a,t1,t2,t3,t4,v1,v2,v3,v4,v5,v6,v7,v8,om,fun b=>?_⟩,hs⟩;rcases t6 with⟨_,x⟩|⟨x,y⟩
   .rw[b]at x;cases x
   .exact⟨x,fun e=>y.resolve_left (fun z=>z e)⟩
  .intro x;refine⟨a,x.h,⟨x.m.te,x.m.re,x.m.of,x.m.ct,by have:=x.m.rn;omega,?_⟩,⟨⟨⟨⟨⟨⟨⟨x.m.lv,x.m.l1⟩,x.m.wk⟩,x.m.ov⟩,x.m.ow⟩,x.m.tx⟩,x.m.t6⟩,x.m.ak⟩,x.s⟩;cases b:C.ak
   .refine qt ⟨(x.m.na b).1,?_⟩;by_cases e:C.p=7
    .exact qt ((x.m.na b).2 e)
    .exact qp e
   .exact qp ⟨x.m.ak b,rfl⟩
 .refine (iX w C s (dP C.ho) True True (wrP C.ho.bx) g (fun x=>Qj x a) (fun x=>Qj x a) i).mono ?_;rintro o w' ⟨f,d⟩;exact⟨f.to ⟨fun x=>Qj x.1 a,fun x=>Qj x.m.p a⟩,d⟩
def Gz(W:Wd)(C:Co)(s:Sl)(h:bj W C.ho s)(hn:C.ho.le 1048576)(hok:cH C):ce 43 #[aG (coL C s).toArray] W fun o w'=>o=rT (bO true)/\Bl W w':=(sC W C s h hn).mono (by rintro o w' ⟨⟨b,rfl,hb⟩,h2⟩;rw[hb.2 hok];exact⟨rfl,h2⟩)
def Hh(W:Wd)(C:Co)(s:Sl)(h:bj W C.ho s)(hn:C.ho.le 1048576)(hok:¬cH C):ce 43 #[aG (coL C s).toArray] W fun o w'=>o=rT (bO false)/\Bl W w':=(sC W C s h hn).mono (by rintro o w' ⟨⟨b,rfl,hb⟩,h2⟩;cases b;exact⟨rfl,h2⟩;exact Qj (hb.1 rfl) hok)
def Ht(W:Wd)(C:Co)(s:Sl)(h:bj W C.ho s)(hn:C.ho.le 1048576)(hok:cH C):ce 79 #[aG (coL C s).toArray] W fun o w'=>o=rT (bO true)/\Bl W w':=(iY W C s h hn).mono (by rintro o w' ⟨⟨b,rfl,hb⟩,h2⟩;rw[hb.2 hok];exact⟨rfl,h2⟩)
def FW(W:Wd)(C:Co)(s:Sl)(h:bj W C.ho s)(hn:C.ho.le 1048576)(hok:¬cH C):ce 79 #[aG (coL C s).toArray] W fun o w'=>o=rT (bO false)/\Bl W w':=(iY W C s h hn).mono (by rintro o w' ⟨⟨b,rfl,hb⟩,h2⟩;cases b;exact⟨rfl,h2⟩;exact Qj (hb.1 rfl) hok)
def MKQ(B:Nat)(T:Ho)(sg:Sl)(w:World):Prop:=∀W,(∀x,B<=x->x<w.heap.size->W.heap[x]?=w.heap[x]?)->w.heap.size<=W.heap.size->ce 88 #[aG (hoL T sg).toArray,I J 1] W fun o w1=>∃k:Nat,o=rT (I J (k:Int))/\k<=100000000000000/\Below B W w1/\(∀x,w.heap.size<=x->x<W.heap.size->w1.heap[x]?=W.heap[x]?)/\∀W2,(∀x,B<=x->x<w.heap.size->W2.heap[x]?=w1.heap[x]?)->w.heap.size<=W2.heap.size->ce 91 #[aG (hoL T sg).toArray,I J 1] W2 fun o w2=>o=rT (I J (k:Int))/\Bl W2 w2
def whS.mkq{B:Nat}{w:World}{s:Wh}{H:Ho}(h:whS B w.heap.size w s)(hd:whD s)(g:whE s):MKQ B H s.sl w:=by
 intro W e l;have hs:whS B w.heap.size W s:=h.same e;refine(jC B w.heap.size W H.c0 H.c1 H.c2 H.c3 H.lo H.st s 1 hs hd l om).mono ?_;rintro o p ⟨rfl,i,c,ho,f⟩;refine⟨s.c4 1,rfl,nT (hs.c4 om) (by decide),f,fun x h1 d=>ho x (qt h1) d,fun a b n=>?_⟩;have k:whS B w.heap.size a s:=c.same b;have j:whM a s 1:=(i g).same c b;exact pU B w.heap.size a H.c0 H.c1 H.c2 H.c3 H.lo H.st s 1 k j n om
def Bo(B:Nat)(w:World)(hB:B<=w.heap.size):MKQ B zHo zSl w:=by
 intro W e f;refine(pD W 0 0 0 0 0 0 1 om).mono ?_;rintro o g ⟨rfl,a⟩;refine⟨1,rfl,by decide,a.mono om,fun x _ c=>a.block x c,fun b _ _=>?_⟩;refine(pR b 0 0 0 0 0 0 1 om).mono ?_;rintro o h ⟨rfl,d⟩;exact⟨rfl,d⟩
def DS{B T:Nat}{W:World}{sx:Wh}{H:Ho}(h:whS B T W sx)(hd:whD sx)(c:T<=W.heap.size):ce 88 #[aG (hoL H sx.sl).toArray,I J 1] W fun o a=>∃k:Nat,o=rT (I J (k:Int))/\(∀x,T<=x->x<W.heap.size->a.heap[x]?=W.heap[x]?)/\Below B W a/\k<=100000000000000:=by
 refine(jC B T W H.c0 H.c1 H.c2 H.c3 H.lo H.st sx 1 h hd c om).mono ?_;rintro o a ⟨rfl,_,_,q,d⟩;exact⟨_,rfl,fun x h1 b=>q x (qt h1) b,d,nT (h.c4 om) (by decide)⟩
def Hv(X:World)(H:Ho)(s:Sl)(h:bj X H s)(b:H.le 1048576):ce 76 #[aG (hoL H s).toArray] X fun o w'=>∃a:Wh,o=rT (aG (hoL H a.sl).toArray)/\St X.heap.size w' (fun W=>bj W H a.sl)/\whS X.heap.size w'.heap.size w' a/\whD a/\eB a.sl/\Bl X w':=by
 rw[<- gC];refine(wB X H s h b).mono ?_;rintro o w' ⟨a,rfl,h1,f⟩;have hs:eB a:=by
  obtain⟨c,d,_,_,_,_,_,e,_⟩:=h1.now.2.e;rw[e];exact⟨⟨c,rfl⟩,⟨d,rfl⟩⟩
 obtain⟨s2,rfl,g,i⟩:=h1.now.2.wh h1.now.1 b;exact⟨s2,by rw[gC],fun W j=>(h1 W j).1,g,i,hs,f⟩
end Go.Proofs.YtbbffcolnddcdaaGreatDoor
