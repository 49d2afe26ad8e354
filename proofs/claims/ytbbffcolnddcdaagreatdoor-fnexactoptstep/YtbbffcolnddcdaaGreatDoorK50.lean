import Derived.Test.YtbbffcolnddcdaaGreatDoorK09
import Derived.Test.YtbbffcolnddcdaaGreatDoorK48
namespace Go.Proofs.YtbbffcolnddcdaaGreatDoor
open Go.Proofs.Tryz
set_option maxRecDepth 40000
open Go.ChangeShapes Go.WideShapes Go.ChangeAt Go.RowKit
set_option linter.all false
open Go.Value renaming int->I,slice->sL,bool->bO,pointer->pT,agg->aG
open Go.IntKind renaming i64->J
open Go.Ending renaming returned->rT
open Go.Proofs.Tryz renaming prog->Tp
def cells31:Tp.cellsOf 31=21:=kr
def cells37:Tp.cellsOf 37=11:=kr
def cells40:Tp.cellsOf 40=2:=kr
def cells42:Tp.cellsOf 42=35:=kr
def cells38:Tp.cellsOf 38=1:=kr
def cells108:Tp.cellsOf 108=1:=kr
section
variable{H:Type}{enc:TypeId × Value->H}{W:World}{fuel:Nat}{cs:List Value}{x:DataW H × List MemPlace}
def xS(u:DataW.trod enc Tp W 0 (fun _=>true) true fuel 31 cs=some x):∃(C:Co)(s:Sl),cs=coL C s/\bj W C.ho s/\C.ho.le 9223372036854775807:=by
 obtain⟨n,h,b⟩:=g8 underlying31 u;rw[cells31]at b;obtain⟨A,c⟩:=h.int 0 0 ⟨_,rfl,rfl,rfl⟩;obtain⟨B,d⟩:=h.int 1 1 ⟨_,rfl,rfl,rfl⟩;obtain⟨E,g⟩:=h.int 2 2 ⟨_,rfl,rfl,rfl⟩;obtain⟨G,i⟩:=h.bool 3 3 ⟨_,rfl,rfl,rfl⟩;obtain⟨K,j⟩:=h.bool 4 4 ⟨_,rfl,rfl,rfl⟩;obtain⟨x5,k⟩:=h.bool 5 5 ⟨_,rfl,rfl,rfl⟩;obtain⟨L,l⟩:=h.bool 6 6 ⟨_,rfl,rfl,rfl⟩;obtain⟨M,p⟩:=h.bool 7 7 ⟨_,rfl,rfl,rfl⟩;obtain⟨x8,r⟩:=h.int 8 8 ⟨_,rfl,rfl,rfl⟩;obtain⟨N,t⟩:=h.int 9 9 ⟨_,rfl,rfl,rfl⟩;obtain⟨D,e⟩:=h.int 10 10 ⟨_,rfl,rfl,rfl⟩;obtain⟨y,hy⟩:=h 11 _ rfl;have a:DataW.trod enc Tp W 0 (fun _=>true) true n 29 ((cs.drop 11).take (Tp.cellsOf 29))=some y:=hy;rw[cells29,QY (by rw[Q9,b];decide)]at a;obtain⟨ho,s,f,w,v⟩:=xA a;refine⟨⟨A,B,E,G,K,x5,L,M,x8,N,D,ho⟩,s,?_,w,v⟩;rw[show cs=cs.drop 0 from rfl,c,d,g,i,j,k,l,p,r,t,e,f];rfl
def wP(w:DataW.trod enc Tp W 0 (fun _=>true) true fuel 37 cs=some x):∃(S:Sc)(a:Option Addr)(n k:Nat),cs=scL S a n k/\iB W a n k S.l/\n<=maxLen:=by
 obtain⟨n,h,f⟩:=g8 underlying37 w;rw[cells37]at f;obtain⟨C,g⟩:=h.int 0 0 ⟨_,rfl,rfl,rfl⟩;obtain⟨D,j⟩:=h.int 1 1 ⟨_,rfl,rfl,rfl⟩;obtain⟨E,p⟩:=h.int 2 2 ⟨_,rfl,rfl,rfl⟩;obtain⟨G,s⟩:=h.int 3 3 ⟨_,rfl,rfl,rfl⟩;obtain⟨K,t⟩:=h.int 4 4 ⟨_,rfl,rfl,rfl⟩;obtain⟨x5,u⟩:=h.int 5 5 ⟨_,rfl,rfl,rfl⟩;obtain⟨y,hy⟩:=h 6 _ rfl;have c:DataW.trod enc Tp W 0 (fun _=>true) true n 35 ((cs.drop 6).take (Tp.cellsOf 35))=some y:=hy;rw[cells35,QY (by rw[Q9,f];decide)]at c;obtain⟨b,a,m,cap,v,A,B⟩:=jW c;refine⟨⟨C,D,E,G,K,x5,b.e,b.i,b.r,b.d,b.l⟩,a,m,cap,?_,A,B⟩;rw[show cs=cs.drop 0 from rfl,g,j,p,s,t,u,v];rfl
def tv{v:Value}(h:DataW.trod enc Tp W 0 (fun _=>true) true fuel 38 [v]=some x):∃a n cap l,v=sL a n cap/\ah W a n cap l/\n<=maxLen:=by
 obtain⟨a,n,c,l,e,⟨h1,b,d,f⟩,g⟩:=rV (B:=18446744073709551616) underlying38 underlying108 cells108 (fun z h=>by have:=bounds_u64 h;omega) h;exact⟨a,n,c,l,e,⟨h1,b,d,f⟩,g⟩
def rY(e:DataW.trod enc Tp W 0 (fun _=>true) true fuel 40 cs=some x):∃(N:Int)(a:Option Addr)(n k:Nat)(l:List Nat),cs=[I J N,sL a n k]/\ah W a n k l/\n<=maxLen:=by
 obtain⟨n,h,c⟩:=g8 underlying40 e;rw[cells40]at c;match cs,c with
 |[c0,c1],_=>
  obtain⟨i,b⟩:=h.int 0 0 ⟨_,rfl,rfl,rfl⟩;obtain⟨y,hy⟩:=h 1 _ rfl;have h1:DataW.trod enc Tp W 0 (fun _=>true) true n 38 ([c1].take (Tp.cellsOf 38))=some y:=hy;rw[cells38]at h1;obtain⟨a,m,cap,l,d,f,g⟩:=tv h1;refine⟨i,a,m,cap,l,?_,f,g⟩;simp at b;rw[b,d]
end
def zF{H:Type}{enc:TypeId × Value->H}{W:World}{r:Reach}{b0:Nat}{v:Value}{d:DataW H}{p:List MemPlace}
  (M:Value.okWide Tp W r b0 42 v) (h:DataW.Trod enc Tp W 0 (fun _=>true) true 42 v d p) :
  ∃(A:Ov)(q:Os),v=aG (oL A q).toArray/\oI W A q/\A.c.ho.le 9223372036854775807/\A.s.l.length<=9223372036854775807/\A.w.length<=9223372036854775807:=by
 obtain⟨⟨b⟩,rfl,a1⟩:=okWide_struct underlying42 M;obtain⟨a0,L⟩:=h;obtain⟨n,h,g⟩:=g8 underlying42 L;have g:b.length=35:=g.trans cells42;have h:kT enc W n b _:=h;obtain⟨X,E⟩:=h 0 _ rfl;have h0:DataW.trod enc Tp W 0 (fun _=>true) true n 31 ((b.drop 0).take (Tp.cellsOf 31))=some X:=E;obtain⟨Y,G⟩:=h 1 _ rfl;have h1:DataW.trod enc Tp W 0 (fun _=>true) true n 37 ((b.drop 21).take (Tp.cellsOf 37))=some Y:=G;obtain⟨Z,K⟩:=h 2 _ rfl;have f:DataW.trod enc Tp W 0 (fun _=>true) true n 40 ((b.drop 32).take (Tp.cellsOf 40))=some Z:=K;obtain⟨u,D⟩:=h.int 3 34 ⟨_,rfl,rfl,rfl⟩;rw[cells31]at h0;rw[cells37]at h1;rw[cells40]at f;obtain⟨C,s,x,Q,R⟩:=xS h0;obtain⟨S,a,m,k,y,i,T⟩:=wP h1;obtain⟨N,t,P,O,l,B,r5,U⟩:=rY f;have q3:=i.len;have q5:=r5.len;refine⟨⟨C,S,N,u,l⟩,⟨s,a,m,k,t,P,O⟩,?_,⟨Q,i,r5⟩,R,by unfold maxLen at T;show S.l.length<=_;omega,by unfold maxLen at U;show l.length<=_;omega⟩;have j:=List.take_append_drop 21 b;have t1:=List.take_append_drop 11 (b.drop 21);have e:=List.take_append_drop 2 (b.drop 32);rw[List.drop_drop]at t1 e;rw[show b.take 21=coL C s from x]at j;rw[y]at t1;rw[B,D,qo om]at e;rw[<- j,<- t1,<- e];rfl
end Go.Proofs.YtbbffcolnddcdaaGreatDoor
