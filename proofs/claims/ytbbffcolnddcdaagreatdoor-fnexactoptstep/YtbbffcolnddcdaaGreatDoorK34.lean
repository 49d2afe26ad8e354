import Derived.Test.YtbbffcolnddcdaaGreatDoorK20
import Derived.Test.YtbbffcolnddcdaaGreatDoorK33
namespace Go.Proofs.YtbbffcolnddcdaaGreatDoor
open Go.RowKit
set_option linter.all false
open Go.Value renaming int->I,slice->sL,bool->bO,pointer->pT,agg->aG
open Go.IntKind renaming i64->J
open Go.Ending renaming returned->rT
open Go.Proofs.Tryz renaming prog->Tp
section
variable{bx:List R8}
def onI(bx:List R8):Nat:=bx.findIdx (fun b=>b.x==2||b.x==3)
def vX{z:Int}(h:bsy bx z)(d:wrP bx):z=(onI bx:Int)/\onI bx<bx.length:=by
 rcases h with⟨k,c,h1,a,rfl⟩|⟨h1,_⟩
 .have e:onI bx=k:=by
   unfold onI;rw[List.findIdx_eq c];refine⟨by simpa[onW]using h1,fun j b=>?_⟩;have:=a j om b;simpa[onW]using this
  exact⟨by rw[e],om⟩
 .exact Qj h1 d
def aq(C:Co):ByteArray:=(fun b:R8=>eP b.e b.i b.r b.d b.l.length b.l) (C.ho.bx.getD (onI C.ho.bx) bx0)
def jG(C:Co)(h:onI C.ho.bx<C.ho.bx.length):aq C=eP C.ho.bx[onI C.ho.bx].e C.ho.bx[onI C.ho.bx].i C.ho.bx[onI C.ho.bx].r C.ho.bx[onI C.ho.bx].d C.ho.bx[onI C.ho.bx].l.length C.ho.bx[onI C.ho.bx].l:=by
 unfold aq;rw[qj,Q4 h];rfl
def lu(a:wrP bx):onI bx<bx.length:=by
 unfold wrP at a;obtain⟨k,b⟩:=Classical.not_forall.1 a;obtain⟨c,h1⟩:=Classical.not_forall.1 b;have h1:=Classical.not_not.1 h1;unfold onI;rw[List.findIdx_lt_length];exact⟨bx[k],ql c,by simpa[onW]using h1⟩
def od(w:World)(C:Co)(s:Sl)(h:bj w C.ho s)(k:s.n2<=8)(g:wrP C.ho.bx):ce 22 #[aG (coL C s).toArray] w fun o w'=>∃(e:Bool)(i:Nat)(r:Bool)(d:Int)(a:Option Addr)(m c:Nat)(l:Unit),o=rT (frV e i r d a m c)/\Bl w w'/\ce 21 #[frV e i r d a m c] w' fun o p=>o=rT (.string (aq C))/\Bl w' p:=by
 have f:=lu g;refine(sA w C s _ f h k fun z n=>(vX n g).1).mono ?_;rintro o w' ⟨a,m,c,rfl,h1,j⟩;refine⟨_,_,_,_,a,m,c,(),rfl,j,?_⟩;rw[jG C f];generalize C.ho.bx[onI C.ho.bx]=b at*;have:=lG w' b.e b.i b.r b.d a m c b.l h1;rw[h1.len]at this;rw[h1.len];exact this
end
open Go.Proofs.Tryz
open Option renaming none->nn,some->sQ
set_option maxRecDepth 20000
set_option maxHeartbeats 16000000
open Go.IntKind renaming i64->J,u32->Zk
def GQ{P:Prop}(h:P):Hid P:=h
def rR(W:World)(P u n x:Nat)(bx:List R8)(k:Nat)(A:k<bx.length)(t:W.cell? ⟨P,5,nn⟩=sQ (sL (be u) n x))(h:aP W (be u) n x bx)(hn:n<=8)(C:∀z,bsy bx z->z=(k:Int)):ce 134 #[ap P] W fun o w'=>∃f m c,o=rT (frV bx[k].e bx[k].i bx[k].r bx[k].d f m c)/\iB w' f m c bx[k].l/\Bl W w':=by
 have M:=h.len;have Z:=h.cap;obtain⟨f,m,c,q⟩:∃f m c,at8 W u (k*8) bx[k] f m c:=by
  obtain⟨Y,off,e,L⟩:=h.cells (by intro e;rw[e]at A;cases A);cases e;have:=L k A;rw[qg]at this;exact this
 have E:Hid (∀V,Bl W V->ce 188 #[ap P] V fun o w'=>o=rT (I J (k:Int))/\Bl V w'):=fun V v=>(jg V P _ n x bx ((v.cell (by exact Qn W _ t)).trans t) (h.below v) om).mono fun o w' ⟨z,h1,H,K⟩=>⟨by rw[h1,C z H],K⟩
 have a0:k<n:=om;have w:Hid (Bl W (W.alloc (.cells [bO false,I Zk 0,bO false,I J 0,sL nn 0 0].toArray 53))):=Zw;have g:Hid (∀V,Bl W V->V.cell? ⟨P,5,nn⟩=sQ (sL (be u) n x)/\at8 V u (k*8) bx[k] f m c):=fun V v=>⟨(v.cell (by exact Qn W _ t)).trans t,q.below v⟩
 have G:Hid (blk (W.alloc (.cells [bO false,I Zk 0,bO false,I J 0,sL nn 0 0].toArray 53)) W.heap.size [bO false,I Zk 0,bO false,I J 0,sL nn 0 0] 53):=blk.new W _ 53;clear h C M q t;generalize bx[k]=b at*;go_enter func134,ntmps134;have t:=(g.o _ w.o).1;go_upto_region 1 with fail
 go_region_with (go_at_call 188;refine(E.o _ w.o.drew).mono ?_;rintro o j ⟨rfl,y⟩;have s:Hid (Bl W j):=w.o.drew.trans (y.mono w.o.drew.size);have a:Hid (blk j W.heap.size [bO false,I Zk 0,bO false,I J 0,sL nn 0 0] 53):=(G.o.below (bW _ _).drew).below y;have a1:=(g.o j s.o).1;have c3:=(g.o j s.o).2.c3;have c4:=(g.o j s.o).2.c4;have N:=(g.o j s.o).2.c5;have O:=(g.o j s.o).2.c6;have Q:=(g.o j s.o).2.cs;have R:=a.o.cell 0 _ rfl;have S:=a.o.cell 1 _ rfl;have T:=a.o.cell 2 _ rfl;have U:=a.o.cell 3 _ rfl;have X:=a.o.cell 4 _ rfl;have z0:=a.o.free 0;have z1:=a.o.free 1;have z2:=a.o.free 2;have z3:=a.o.free 3;have z4:=a.o.free 4;clear y);all_goals
  have B:=GQ (((((s.o.setCell (p:=⟨W.heap.size,0,nn⟩) (nR _) (bO b.e)).setCell (p:=⟨W.heap.size,1,nn⟩) (nR _) (I Zk (b.i:Int))).setCell (p:=⟨W.heap.size,2,nn⟩) (nR _) (bO b.r)).setCell (p:=⟨W.heap.size,3,nn⟩) (nR _) (I J b.d)).setCell (p:=⟨W.heap.size,4,nn⟩) (nR _) (sL f m c));have D:Hid (blk _ W.heap.size [bO b.e,I Zk (b.i:Int),bO b.r,I J b.d,sL f m c] 53):=((((a.o.set 0 (bO b.e)).set 1 (I Zk (b.i:Int))).set 2 (bO b.r)).set 3 (I J b.d)).set 4 (sL f m c);go_wp2_with fail;refine bC results134 (Qt (P:=Tp) _ W.heap.size 0 53 _ _ D.o.load underlying53 rfl cE) ?_;exact⟨f,m,c,rfl,(g.o _ B.o).2.dat,B.o⟩
end Go.Proofs.YtbbffcolnddcdaaGreatDoor
