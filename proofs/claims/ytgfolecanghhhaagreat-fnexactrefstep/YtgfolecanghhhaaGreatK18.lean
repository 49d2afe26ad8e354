import Derived.Test.YtgfolecanghhhaaGreatK17
namespace Go.Proofs.YtgfolecanghhhaaGreat
open Go.RowKit
set_option linter.all false
open Go.Value renaming int->I,slice->sL,bool->bO,pointer->pT,agg->aG
open Go.IntKind renaming i64->J
open Go.Ending renaming returned->rT
open Go.Proofs.Tryz renaming prog->Tp
abbrev dJ (c0 c2:Int) (r1 gf n1 kf gb n2 kb mb gr f1 n3:Nat) (lo st:Int) (w0 W wr:World) (P gs room first:Nat) (M:List R8) (C:Nat):Prop:=ptF f8 R8.l 8 205 (fun C=>liL c0 r1 c2 room gf n1 kf gb n2 kb mb gr f1 n3 gs first C lo st) w0 W wr P gs room first M C
def vV (c0 c2:Int) (r1 gf n1 kf gb n2 kb mb gr f1 n3:Nat) (lo st:Int) (w0 W:World) (P gs room first:Nat) (L its:List R8) (a:Option Addr) (n c:Nat)
  (hP:blk W P (liL c0 r1 c2 room gf n1 kf gb n2 kb mb gr f1 n3 gs first L.length lo st) 205) (hg:gs≠P) (hrow:cu W gs (room*8)) (hgl:gs<W.heap.size) (hring:cw w0 W gs room first L)
  (hf:first<room) (hL:L.length<=room) (hroom:room<=1000) (hits:itF f8 R8.l 8 w0 W P gs a n c its) (hn:n<=1048576) (t:Nat) (ht:t=min (room-L.length) n) :
  Calls Tp 210 #[pT (some ⟨P,10,none⟩),sL a n c] W fun o w'=>o = rT (I J (t:Int))/\dJ c0 c2 r1 gf n1 kf gb n2 kb mb gr f1 n3 lo st w0 W w' P gs room first (L++its.take t) (L.length+t):=
 M5 f8 R8.l 8 175 210 232 (qx ⟨rfl,rfl,rfl,rfl⟩) (fun _ _ _ _=>rfl) (fun b ao m c=>sT _ _ _ _ _ _ _ _ _ _) 205 (fun C=>liL c0 r1 c2 room gf n1 kf gb n2 kb mb gr f1 n3 gs first C lo st) 10 w0 W P gs room first L its a n c ⟨fun _=>rfl,fun _=>rfl,fun _=>rfl,fun _ _=>rfl⟩ hP hg hrow hgl hring hf hL hroom hits hn t ht
open Go.Proofs.Tryz
open Option renaming none->nn,some->sQ
set_option maxRecDepth 20000
set_option maxHeartbeats 16000000
open Go.IntKind renaming i64->J,u32->Zk
section
variable {c0 c2 lo st:Int} {r1 gf n1 kf gb n2 kb mb gr f1 n3 P gs room first C:Nat} {w0 W wr:World} {M:List R8}
def dJ.base {X:World} (h:dJ c0 c2 r1 gf n1 kf gb n2 kb mb gr f1 n3 lo st w0 X wr P gs room first M C) (hb:Bl W X):dJ c0 c2 r1 gf n1 kf gb n2 kb mb gr f1 n3 lo st w0 W wr P gs room first M C:=
 ⟨h.p,h.z,h.r,fun b h1 h2 h3=>(h.k b h1 h2 (nL h3 hb.size)).trans (hb.block b h3),nT hb.size h.s,⟨h.o.1.trans hb.os,h.o.2.1.trans hb.tape,h.o.2.2.trans hb.output⟩⟩
def dJ.lost (h:dJ c0 c2 r1 gf n1 kf gb n2 kb mb gr f1 n3 lo st w0 W wr P gs room first M C) (hg:gs≠P) (lo':Int):dJ c0 c2 r1 gf n1 kf gb n2 kb mb gr f1 n3 lo' st w0 W (wr.setCell ⟨P,13,nn⟩ (I J lo')) P gs room first M C:=by
 have e:∀ b,b≠P->(wr.setCell ⟨P,13,nn⟩ (I J lo')).heap[b]?=wr.heap[b]?:=fun b hb=>QA _ _ _ _ (by exact hb);have hbel:Below 0 wr (wr.setCell ⟨P,13,nn⟩ (I J lo')):=(bW 0 wr).setCell (nZ _) _;exact⟨h.p.set 13 _,h.z.up (e gs hg),h.r.keep (e gs hg),fun q h1 h2 h3=>(e q h1).trans (h.k q h1 h2 h3),nT h.s hbel.size,⟨hbel.os.trans h.o.1,hbel.tape.trans h.o.2.1,hbel.output.trans h.o.2.2⟩⟩
def yv (c0 c2:Int) (r1 gf n1 kf gb n2 kb mb gr f1 n3:Nat) (lo st:Int) (w0 W:World) (P gs room first:Nat) (L:List R8) (x y z:Int) (e:Bool) (i:Nat) (r:Bool) (d:Int) (ao:Option Addr) (m c:Nat) (l:List Nat)
  (hP:blk W P (liL c0 r1 c2 room gf n1 kf gb n2 kb mb gr f1 n3 gs first L.length lo st) 205) (hg:gs≠P) (hrow:cu W gs (room*8)) (hgl:gs<W.heap.size) (hring:cw w0 W gs room first L) (hf:first<room) (hL:L.length<=room) (hroom:room<=1000) (hby:iB w0 ao m c l) (hl0:0<=lo) (hl1:lo<=100000) (t:Nat) (ht:t=min (room-L.length) 1) :
  Calls Tp 213 #[pT (sQ ⟨P,0,nn⟩),aG #[I J x,I J y,I J z,bO e,I Zk (i:Int),bO r,I J d,sL ao m c]] W fun o w'=>o = rT (.tuple #[])/\dJ c0 c2 r1 gf n1 kf gb n2 kb mb gr f1 n3 (min (lo+(1-(t:Int))) 100000) st w0 W w' P gs room first (L++[⟨x,y,z,e,i,r,d,l⟩].take t) (L.length+t):=by
 have hPl:=hP.lt;have HPT:Hid (∀ X ib,Bl W X->W.heap.size<=ib->X.heap[ib]?=sQ (.cells #[I J x,I J y,I J z,bO e,I Zk (i:Int),bO r,I J d,sL ao m c] 175)->Calls Tp 210 #[pT (sQ ⟨P,10,nn⟩),sL (sQ ⟨ib,0,nn⟩) 1 1] X fun o w'=>o = rT (I J (t:Int))/\dJ c0 c2 r1 gf n1 kf gb n2 kb mb gr f1 n3 lo st w0 X w' P gs room first (L++[⟨x,y,z,e,i,r,d,l⟩].take t) (L.length+t)):=fun X ib hX hi hb=>
  vV c0 c2 r1 gf n1 kf gb n2 kb mb gr f1 n3 lo st w0 X P gs room first L [⟨x,y,z,e,i,r,d,l⟩] (sQ ⟨ib,0,nn⟩) 1 1 (hP.below hX) hg (hrow.below hX hgl) (nL hgl hX.size) (hring.keep (hX.block _ hgl)) hf hL hroom ⟨rfl,nR _,fun _=>⟨ib,0,rfl,om,om,aJ hb,fun j hj=>⟨ao,m,c,by
   have hj0:j=0:=by simp at hj;omega
   subst hj0;exact⟨dc hb,hby⟩⟩⟩⟩ om t ht
 have ht1:t<=1:=om;have HPG:Hid (gs≠P/\P<W.heap.size/\gs<W.heap.size):=⟨hg,hPl,hgl⟩
 have H0:Hid (blk (W.alloc (.cells #[I J x,I J y,I J z,bO e,I Zk (i:Int),bO r,I J d,sL ao m c] 175)) W.heap.size [I J x,I J y,I J z,bO e,I Zk (i:Int),bO r,I J d,sL ao m c] 175/\Bl W (W.alloc (.cells #[I J x,I J y,I J z,bO e,I Zk (i:Int),bO r,I J d,sL ao m c] 175))):=⟨blk.new W _ 175,Zw⟩
 clear hP hrow hgl hring hby ht hL hf hroom hg hPl;go_enter func213,ntmps213;go_wp2_with fail;refine QJ (S:=fun X=>blk X W.heap.size [I J x,I J y,I J z,bO e,I Zk (i:Int),bO r,I J d,sL ao m c] 175) kr ?_;have hS:blk (World.drew (W.alloc (.cells #[I J x,I J y,I J z,bO e,I Zk (i:Int),bO r,I J d,sL ao m c] 175))) W.heap.size [I J x,I J y,I J z,bO e,I Zk (i:Int),bO r,I J d,sL ao m c] 175:=H0.o.1.below (bW _ _).drew;have HB0:Hid (Bl W (World.drew (W.alloc (.cells #[I J x,I J y,I J z,bO e,I Zk (i:Int),bO r,I J d,sL ao m c] 175)))):=H0.o.2.drew;clear H0;change wpAnyH Tp _ _ _ _ _ _ _ (World.drew (W.alloc (.cells #[I J x,I J y,I J z,bO e,I Zk (i:Int),bO r,I J d,sL ao m c] 175)));generalize World.drew (W.alloc (.cells #[I J x,I J y,I J z,bO e,I Zk (i:Int),bO r,I J d,sL ao m c] 175))=v0 at *;refine tk 0 ?_;refine tk 1 ?_;refine tk 2 ?_;refine wU 3 (.agg [I J x,I J y,I J z,bO e,I Zk (i:Int),bO r,I J d,sL ao m c].toArray) rfl (QL (by rfl) 175 (.tmp 3) rfl W.heap.size 0 rfl [I J x,I J y,I J z,bO e,I Zk (i:Int),bO r,I J d,sL ao m c] _ (fun X h=>h.load) underlying175 rfl Gl) hS ?_;simp only[aZ];refine al 4 fun K2 hK2=>?_;go_simp;have bA:Bl v0 (v0.alloc (.cells #[I J x,I J y,I J z,bO e,I Zk (i:Int),bO r,I J d,sL ao m c] 175)):=Zw;have hSA:blk (v0.alloc (.cells #[I J x,I J y,I J z,bO e,I Zk (i:Int),bO r,I J d,sL ao m c] 175)) W.heap.size [I J x,I J y,I J z,bO e,I Zk (i:Int),bO r,I J d,sL ao m c] 175:=hS.below bA;have HNB:Hid ((v0.alloc (.cells #[I J x,I J y,I J z,bO e,I Zk (i:Int),bO r,I J d,sL ao m c] 175)).heap[v0.heap.size]?=sQ (.cells #[I J x,I J y,I J z,bO e,I Zk (i:Int),bO r,I J d,sL ao m c] 175)):=QN v0 _;have HB1:Hid (Bl W (v0.alloc (.cells #[I J x,I J y,I J z,bO e,I Zk (i:Int),bO r,I J d,sL ao m c] 175))/\W.heap.size<v0.heap.size):=⟨HB0.o.trans (bA.mono HB0.o.size),hS.lt⟩
 refine hK2.out _ _ hSA (fun hS2=>?_);clear hK2 K2 hSA hS bA HB0;have hS:=hS2;clear hS2;generalize v0.alloc (.cells #[I J x,I J y,I J z,bO e,I Zk (i:Int),bO r,I J d,sL ao m c] 175)=v1 at *;generalize v0.heap.size=ib at *;refine al 5 fun K2 hK2=>?_;go_simp;refine (HPT.o v1 ib HB1.o.1 (qA HB1.o.2) HNB.o).mono ?_;rintro o w2 ⟨rfl,hq⟩;have hS5:blk w2 W.heap.size [I J x,I J y,I J z,bO e,I Zk (i:Int),bO r,I J d,sL ao m c] 175:=hS.kept (hq.k _ (by have:=HPG.o;omega) (by have:=HPG.o;omega) hS.lt);have HQ:Hid (dJ c0 c2 r1 gf n1 kf gb n2 kb mb gr f1 n3 lo st w0 W w2 P gs room first (L++[⟨x,y,z,e,i,r,d,l⟩].take t) (L.length+t)):=hq.base HB1.o.1;clear hq HNB HPT;go_wp2_with fail;refine hK2.out _ _ hS5 (fun hS2=>?_);clear hK2 K2 hS5 hS;have hS:=hS2;clear hS2;have hw1:IntKind.i64.wrap (1-(t:Int))=1-(t:Int):=by rw[QR];omega
 refine tk 6 ?_;refine tk 7 ?_;refine QH kr ?_ _;clear hS;have y13:=HQ.o.p.cell 13 _ rfl;have f13:=HQ.o.p.free 13;have hw2:IntKind.i64.wrap (lo+(1-(t:Int)))=lo+(1-(t:Int)):=by rw[QR];omega
 go_wp2_with fail;refine bN ?_
 exact⟨rfl,HQ.o.lost HPG.o.1 _⟩
end
def Kj (c0 c2:Int) (r3 gf n1 kf gb n2 kb mb gq f3 n4:Nat) (lo st:Int) (w0 W:World) (P gs room first:Nat) (L its:List R5) (a:Option Addr) (n c:Nat)
  (hP:blk W P (liL c0 room c2 r3 gf n1 kf gb n2 kb mb gs first L.length gq f3 n4 lo st) 205) (hg:gs≠P) (hrow:cu W gs (room*5)) (hgl:gs<W.heap.size) (hring:cE w0 W gs room first L)
  (hf:first<room) (hL:L.length<=room) (hroom:room<=1000) (hits:itF f5 R5.l 5 w0 W P gs a n c its) (hn:n<=1048576) (t:Nat) (ht:t=min (room-L.length) n) :
  Calls Tp 209 #[pT (some ⟨P,7,none⟩),sL a n c] W fun o w'=>o = rT (I J (t:Int))/\ptF f5 R5.l 5 205 (fun C=>liL c0 room c2 r3 gf n1 kf gb n2 kb mb gs first C gq f3 n4 lo st) w0 W w' P gs room first (L++its.take t) (L.length+t):=
 M5 f5 R5.l 5 67 209 231 (qr ⟨rfl,rfl,rfl,rfl⟩) (fun _ _ _ _=>rfl) (fun b ao m c=>pP _ _ _ _ _ _ _) 205 (fun C=>liL c0 room c2 r3 gf n1 kf gb n2 kb mb gs first C gq f3 n4 lo st) 7 w0 W P gs room first L its a n c ⟨fun _=>rfl,fun _=>rfl,fun _=>rfl,fun _ _=>rfl⟩ hP hg hrow hgl hring hf hL hroom hits hn t ht
end Go.Proofs.YtgfolecanghhhaaGreat
