import Derived.Test.YtbbffcolnddcdaaGreatDoorK21
namespace Go.Proofs.YtbbffcolnddcdaaGreatDoor
open Go.RowKit
set_option linter.all false
open Go.Value renaming int->I,slice->sL,bool->bO,pointer->pT,agg->aG
open Go.IntKind renaming i64->J
open Go.Ending renaming returned->rT
open Go.Proofs.Tryz renaming prog->Tp
def wZ(c0 c2:Int)(r3 gf n1 kf gb n2 kb mb gq f3 n4:Nat)(lo st:Int)(w0 W:World)(P gs room first:Nat)(L its:List R5)(a:Option Addr)(n c:Nat)
  (hP:blk W P (liL c0 room c2 r3 gf n1 kf gb n2 kb mb gs first L.length gq f3 n4 lo st) 232) (hg:gs≠P) (hrow:bU W gs (room*5)) (hgl:gs<W.heap.size) (hring:dq w0 W gs room first L)
  (hf:first<room) (hL:L.length<=room) (hroom:room<=1000) (hits:itF f5 R5.l 5 w0 W P gs a n c its) (hn:n<=1048576) (t:Nat) (ht:t=min (room-L.length) n) :
  ce 241 #[pT (some ⟨P,7,none⟩),sL a n c] W fun o w'=>o=rT (I J (t:Int))/\ptF f5 R5.l 5 232 (fun C=>liL c0 room c2 r3 gf n1 kf gb n2 kb mb gs first C gq f3 n4 lo st) w0 W w' P gs room first (L++its.take t) (L.length+t):=
 Et f5 R5.l 5 53 241 264 (qp ⟨rfl,rfl,rfl,rfl⟩) (fun _ _ _ _=>rfl) (fun b ao m c=>lN _ _ _ _ _ _ _) 232 (fun C=>liL c0 room c2 r3 gf n1 kf gb n2 kb mb gs first C gq f3 n4 lo st) 7 w0 W P gs room first L its a n c ⟨fun _=>rfl,fun _=>rfl,fun _=>rfl,fun _ _=>rfl⟩ hP hg hrow hgl hring hf hL hroom hits hn t ht
abbrev pk(c0 c2:Int)(r1 gf n1 kf gb n2 kb mb gr f1 n3:Nat)(lo st:Int)(w0 W wr:World)(P gs room first:Nat)(M:List R8)(C:Nat):Prop:=ptF f8 R8.l 8 232 (fun C=>liL c0 r1 c2 room gf n1 kf gb n2 kb mb gr f1 n3 gs first C lo st) w0 W wr P gs room first M C
def wY(c0 c2:Int)(r1 gf n1 kf gb n2 kb mb gr f1 n3:Nat)(lo st:Int)(w0 W:World)(P gs room first:Nat)(L its:List R8)(a:Option Addr)(n c:Nat)
  (hP:blk W P (liL c0 r1 c2 room gf n1 kf gb n2 kb mb gr f1 n3 gs first L.length lo st) 232) (hg:gs≠P) (hrow:bU W gs (room*8)) (hgl:gs<W.heap.size) (hring:eI w0 W gs room first L)
  (hf:first<room) (hL:L.length<=room) (hroom:room<=1000) (hits:itF f8 R8.l 8 w0 W P gs a n c its) (hn:n<=1048576) (t:Nat) (ht:t=min (room-L.length) n) :
  ce 242 #[pT (some ⟨P,10,none⟩),sL a n c] W fun o w'=>o=rT (I J (t:Int))/\pk c0 c2 r1 gf n1 kf gb n2 kb mb gr f1 n3 lo st w0 W w' P gs room first (L++its.take t) (L.length+t):=
 Et f8 R8.l 8 212 242 265 (qt ⟨rfl,rfl,rfl,rfl⟩) (fun _ _ _ _=>rfl) (fun b ao m c=>mS _ _ _ _ _ _ _ _ _ _) 232 (fun C=>liL c0 r1 c2 room gf n1 kf gb n2 kb mb gr f1 n3 gs first C lo st) 10 w0 W P gs room first L its a n c ⟨fun _=>rfl,fun _=>rfl,fun _=>rfl,fun _ _=>rfl⟩ hP hg hrow hgl hring hf hL hroom hits hn t ht
open Go.Proofs.Tryz
open Option renaming none->nn,some->sQ
set_option maxRecDepth 20000
set_option maxHeartbeats 16000000
open Go.IntKind renaming i64->J,u32->Zk
section
variable{c0 c2 lo st:Int}{r1 gf n1 kf gb n2 kb mb gr f1 n3 P gs room first C:Nat}{w0 W wr:World}{M:List R8}
def pk.base{X:World}(h:pk c0 c2 r1 gf n1 kf gb n2 kb mb gr f1 n3 lo st w0 X wr P gs room first M C)(hb:Bl W X):pk c0 c2 r1 gf n1 kf gb n2 kb mb gr f1 n3 lo st w0 W wr P gs room first M C:=
 ⟨h.p,h.z,h.r,fun b h1 h2 h3=>(h.k b h1 h2 (nL h3 hb.size)).trans (hb.block b h3),nT hb.size h.s,⟨h.o.1.trans hb.os,h.o.2.1.trans hb.tape,h.o.2.2.trans hb.output⟩⟩
def pk.lost(h:pk c0 c2 r1 gf n1 kf gb n2 kb mb gr f1 n3 lo st w0 W wr P gs room first M C)(d:gs≠P)(c:Int):pk c0 c2 r1 gf n1 kf gb n2 kb mb gr f1 n3 c st w0 W (wr.setCell ⟨P,13,nn⟩ (I J c)) P gs room first M C:=by
 have e:∀b,b≠P->(wr.setCell ⟨P,13,nn⟩ (I J c)).heap[b]?=wr.heap[b]?:=fun b i=>Ql _ _ _ _ (by exact i);have a:Below 0 wr (wr.setCell ⟨P,13,nn⟩ (I J c)):=(bW 0 wr).setCell (nZ _) _;exact⟨h.p.set 13 _,h.z.up (e gs d),h.r.keep (e gs d),fun q h1 f g=>(e q h1).trans (h.k q h1 f g),nT h.s a.size,⟨a.os.trans h.o.1,a.tape.trans h.o.2.1,a.output.trans h.o.2.2⟩⟩
def zu(c0 c2:Int)(r1 gf n1 kf gb n2 kb mb gr f1 n3:Nat)(lo st:Int)(w0 W:World)(P gs room first:Nat)(L:List R8)(x y z:Int)(e:Bool)(i:Nat)(r:Bool)(d:Int)(a:Option Addr)(m c:Nat)(l:List Nat)
  (G:blk W P (liL c0 r1 c2 room gf n1 kf gb n2 kb mb gr f1 n3 gs first L.length lo st) 232) (H:gs≠P) (a2:bU W gs (room*8)) (n:gs<W.heap.size) (a0:eI w0 W gs room first L) (hf:first<room) (Q:L.length<=room) (a1:room<=1000) (Z:iB w0 a m c l) (a6:0<=lo) (a7:lo<=100000) (t:Nat) (ht:t=min (room-L.length) 1) :
  ce 245 #[ap P,aG #[I J x,I J y,I J z,bO e,I Zk (i:Int),bO r,I J d,sL a m c]] W fun o w'=>o=rT (.tuple #[])/\pk c0 c2 r1 gf n1 kf gb n2 kb mb gr f1 n3 (min (lo+(1-(t:Int))) 100000) st w0 W w' P gs room first (L++[⟨x,y,z,e,i,r,d,l⟩].take t) (L.length+t):=by
 have R:=G.lt;have O:Hid (∀X b,Bl W X->W.heap.size<=b->X.heap[b]?=sQ (.cells #[I J x,I J y,I J z,bO e,I Zk (i:Int),bO r,I J d,sL a m c] 212)->ce 242 #[pT (sQ ⟨P,10,nn⟩),sL (be b) 1 1] X fun o w'=>o=rT (I J (t:Int))/\pk c0 c2 r1 gf n1 kf gb n2 kb mb gr f1 n3 lo st w0 X w' P gs room first (L++[⟨x,y,z,e,i,r,d,l⟩].take t) (L.length+t)):=fun X b s hi Y=>
  wY c0 c2 r1 gf n1 kf gb n2 kb mb gr f1 n3 lo st w0 X P gs room first L [⟨x,y,z,e,i,r,d,l⟩] (be b) 1 1 (G.below s) H (a2.below s n) (nL n s.size) (a0.keep (s.block _ n)) hf Q a1 ⟨rfl,nR _,fun _=>⟨b,0,rfl,om,om,av Y,fun j hj=>⟨a,m,c,by
   have a4:j=0:=by simp at hj;omega
   subst a4;exact⟨cd Y,Z⟩⟩⟩⟩ om t ht
 have a8:t<=1:=om;have A:=hI (qB H (qB R n));have u:Hid (blk (W.alloc (.cells #[I J x,I J y,I J z,bO e,I Zk (i:Int),bO r,I J d,sL a m c] 212)) W.heap.size [I J x,I J y,I J z,bO e,I Zk (i:Int),bO r,I J d,sL a m c] 212/\Bl W (W.alloc (.cells #[I J x,I J y,I J z,bO e,I Zk (i:Int),bO r,I J d,sL a m c] 212))):=⟨blk.new W _ 212,Zw⟩
 clear G a2 n a0 Z ht Q hf a1 H R;go_enter func245,ntmps245;go_wp2_with fail;refine Qu (S:=fun X=>blk X W.heap.size [I J x,I J y,I J z,bO e,I Zk (i:Int),bO r,I J d,sL a m c] 212) kr ?_;have hS:=u.o.1.below (bW _ _).drew;have v:=hI u.o.2.drew;clear u;change wpAnyH Tp _ _ _ _ _ _ _ (World.drew (W.alloc (.cells #[I J x,I J y,I J z,bO e,I Zk (i:Int),bO r,I J d,sL a m c] 212)));generalize World.drew (W.alloc (.cells #[I J x,I J y,I J z,bO e,I Zk (i:Int),bO r,I J d,sL a m c] 212))=f at*;refine tk 0 ?_;refine tk 1 ?_;refine tk 2 ?_;refine wU 3 (.agg [I J x,I J y,I J z,bO e,I Zk (i:Int),bO r,I J d,sL a m c].toArray) rfl (Qw (by rfl) 212 (.tmp 3) rfl W.heap.size 0 rfl [I J x,I J y,I J z,bO e,I Zk (i:Int),bO r,I J d,sL a m c] _ (fun X a3=>a3.load) underlying212 rfl i7) hS ?_;simp only[aZ];refine al 4 fun D g=>?_;go_simp;have E:Bl f (f.alloc (.cells #[I J x,I J y,I J z,bO e,I Zk (i:Int),bO r,I J d,sL a m c] 212)):=Zw;have U:=hS.below E;have N:Hid ((f.alloc (.cells #[I J x,I J y,I J z,bO e,I Zk (i:Int),bO r,I J d,sL a m c] 212)).heap[f.heap.size]?=sQ (.cells #[I J x,I J y,I J z,bO e,I Zk (i:Int),bO r,I J d,sL a m c] 212)):=Qy f _;have w:=hI (qB (v.o.trans (E.mono v.o.size)) hS.lt);refine g.out _ _ U (fun h=>?_);clear g D U hS E v;have hS:=h;clear h;generalize f.alloc (.cells #[I J x,I J y,I J z,bO e,I Zk (i:Int),bO r,I J d,sL a m c] 212)=v1 at*;generalize f.heap.size=b at*;refine al 5 fun D g=>?_;go_simp;refine(O.o v1 b w.o.1 (Q5 w.o.2) N.o).mono ?_;rintro o w2 ⟨rfl,K⟩;have T:=hS.kept (K.k _ (by have:=A.o;omega) (by have:=A.o;omega) hS.lt);have B:=hI (K.base w.o.1);clear K N O;go_wp2_with fail;refine g.out _ _ T (fun h=>?_);clear g D T hS;have hS:=h;clear h;have a9:IntKind.i64.wrap (1-(t:Int))=1-(t:Int):=by rw[QC];omega
 refine tk 6 ?_;refine tk 7 ?_;refine Qs kr ?_ _;clear hS;have ad:=B.o.p.cell 13 _ rfl;have a5:=B.o.p.free 13;have ac:IntKind.i64.wrap (lo+(1-(t:Int)))=lo+(1-(t:Int)):=by rw[QC];omega
 go_wp2_with fail;refine bN ?_
 exact⟨rfl,B.o.lost A.o.1 _⟩
end
def rB(w:World)(H:Ho)(e:Ending)(w':World):Prop:=∃s:Wh,e=rT (aG (hoL H s.sl).toArray)/\St w.heap.size w' (fun W=>bj W H s.sl)/\whS w.heap.size w'.heap.size w' s/\whD s/\whE s/\Bl w w'
end Go.Proofs.YtbbffcolnddcdaaGreatDoor
