import Derived.Shelf.SlicesE.Clone
import Derived.Test.YtgfolecanghhhaaGreatK06
namespace Go.Proofs.YtgfolecanghhhaaGreat
open Go.Proofs.Tryz
set_option linter.all false
open Option renaming none->nn,some->sQ
open Go.Shelf Go.RowKit
open Go.Value renaming int->I,slice->sL,bool->bO,pointer->pT,agg->aG
open Go.IntKind renaming i64->J
open Go.Ending renaming returned->rT
open Go.Proofs.Tryz renaming prog->Tp
section
variable {w:World} {n:Nat} {bs:List R3}
def Tryz.laysE41_ren:Go.Shelf.Ren:=⟨fun | 41=>177 | n=>n,fun | 22=>36 | 23=>180 | n=>n,fun | n=>n⟩
def Tryz.laysE41:Go.Proofs.SlLaysE0.n41 Tp Tryz.laysE41_ren:={
 mixed:=kr
 f41:=⟨Tryz.f177.name,by kernel_rfl,func177.trans (congrArg sQ kr)⟩
 t4:=underlying4
 a4:=isAgg4
 z4:=sizeOf4
 v4:=zeroValue4
 t22:=underlying36
 a22:=isAgg36
 z22:=sizeOf36
 v22:=zeroValue36 }
def c3 (bs:List R3):List Value:=bs.flatMap fun b=>[bO b.e,I .u32 b.m,I .u32 b.k]
def ue (bs:List R3):(c3 bs).length=bs.length*3:=by
 induction bs with
 | nil=>rfl
 | cons b bs ih=>simp only[c3,qI,qe,Qa,List.length_nil] at ih ⊢;omega
def vj (bs:List R3):∀ j (h:j<bs.length),(c3 bs)[j*3]?=sQ (bO bs[j].e)/\(c3 bs)[j*3+1]?=sQ (I .u32 bs[j].m)/\(c3 bs)[j*3+2]?=sQ (I .u32 bs[j].k):=by
 induction bs with
 | nil=>intro j h;exact Qy h (nN _)
 | cons b bs ih=>
  intro j h;cases j with
  | zero=>exact⟨rfl,rfl,rfl⟩
  | succ j=>
   have:=ih j (by simpa using h);have e:∀ t,(c3 (b :: bs))[(t+3)]?=(c3 bs)[t]?:=fun t=>by simp[c3,qI]
   have e0:(j+1)*3=j*3+3:=om;have e1:(j+1)*3+1=(j*3+1)+3:=om;have e2:(j+1)*3+2=(j*3+2)+3:=om;rw[e0,e,show j*3+3+1=(j*3+1)+3 by omega,e,show j*3+3+2=(j*3+2)+3 by omega,e];exact this
def B8 {g cap:Nat} (h:bj w (sQ ⟨g,0,nn⟩) n cap bs) (t:Nat) (u:Value) (hu:(c3 bs)[t]?=sQ u):w.cell? ⟨g,0+t,nn⟩=sQ u:=by
 have ht:t<bs.length*3:=by
  have:=(List.getElem?_eq_some_iff.mp hu).1;rwa [ue] at this
 have hj:t / 3<bs.length:=om;have hne:bs≠[]:=by intro e;subst e;simp at hj
 obtain⟨g',off,ha,hc⟩:=h.cells hne;cases ha;have x:=hc (t / 3) hj;obtain⟨y0,y1,y2⟩:=vj bs (t / 3) hj;have hr:t % 3=0\/t % 3=1\/t % 3=2:=om;rcases hr with r|r|r
 .have e:t=t / 3*3:=om;rw[<- e] at y0;have:=x.c0;rw[<- e] at this;rw[this,<- y0,hu]
 .have e:t=t / 3*3+1:=om;rw[<- e] at y1;have:=x.c1;rw[Nat.add_assoc,<- e] at this;rw[this,<- y1,hu]
 .have e:t=t / 3*3+2:=om;rw[<- e] at y2;have:=x.c2;rw[Nat.add_assoc,<- e] at this;rw[this,<- y2,hu]
def Ea (bs:List R3):∀ u ∈ c3 bs,u.oneCell'=true:=by
 intro u hu;simp only[c3,List.mem_flatMap,Qw,Qf,or_false] at hu;obtain⟨b,_,rfl | rfl | rfl⟩:=hu <;> rfl
def nr (w:World) (g n cap:Nat) (bs:List R3) (h:bj w (sQ ⟨g,0,nn⟩) n cap bs) (hn:n<=1048576) :
  Calls Tp 177 #[sL (sQ ⟨g,0,nn⟩) n cap] w fun e w'=>∃ v',e = rT v'/\w'.ownsRow w.heap.size 180 3 v' n (c3 bs)/\v'≠sL nn 0 0/\Bl w w':=by
 obtain⟨i0,hi,hz0,hz1,hz2⟩:=QW info180;exact AnyE.slices_Clone Tryz.laysE41 i0 _ 3 12 hi hz0 hz1 hz2 rfl om sizeOf180 g 0 n cap (c3 bs) w (by rw[ue,h.len]) (by unfold maxLen;omega) om (fun j u hj=>B8 h j u hj) (Ea bs)
def B7 {B:Nat} {v:Value} (hn:n=bs.length) (ho:w.ownsRow B 180 3 v n (c3 bs)) (hv:v≠sL nn 0 0) :
  ∃ g cap,v = sL (sQ ⟨g,0,nn⟩) n cap/\B<=g/\g<w.heap.size/\n<=cap/\cu w g (n*3)/\St B w (fun W=>bj W (sQ ⟨g,0,nn⟩) n cap bs):=by
 rcases ho.2 with⟨e,_⟩|⟨g,cap,cur,hv',hb,hg,hcp,hmx,hsz,htk⟩
 .exact Qy e hv
 .have hlt:g<w.heap.size:=by
   rcases Nat.lt_or_ge g w.heap.size with h|h
   .exact h
   .rw[Array.getElem?_eq_none h] at hg;cases hg
  have hcur:∀ t,t<n*3->cur[t]?=(c3 bs)[t]?:=by
   intro t ht;rw[<- htk,qT ht,qS]
  have hcell:∀ W:World,W.heap[g]?=w.heap[g]?->∀ t,t<n*3->W.cell? ⟨g,t,nn⟩=(c3 bs)[t]?:=by
   intro W hW t ht;have e:W.heap[g]?=sQ (.cells cur 180 (0,0)):=hW.trans hg;rw[<- hcur t ht];simp[World.cell?,e]
  refine⟨g,cap,hv',hb,hlt,hcp,⟨fun t ht=>?_,fun t=>?_⟩,fun W hW=>⟨hn,hcp,fun hne=>⟨g,0,rfl,fun j hj=>?_⟩⟩⟩
  .rw[hcell w rfl t ht];have hl:t<(c3 bs).length:=by rw[ue,<- hn];exact ht
   exact⟨_,qy hl⟩
  .subst hv';exact QU ho t
  .have e:=hW g hb hlt;obtain⟨y0,y1,y2⟩:=vj bs j hj;exact⟨(by rw[qi];exact (hcell W e _ om).trans y0),(by rw[qi];exact (hcell W e _ om).trans y1),(by rw[qi];exact (hcell W e _ om).trans y2)⟩
end
open Go.RowKit
section
variable {W w:World} {g:Nat}
def DJ (w:World) (c:Nat):Calls Tp 101 #[sL none 0 0,I J (c:Int)] w fun o w'=>o = rT (I J (c:Int))/\w'=w:=by
 go_enter func101,ntmps101;go_wp2;go_loopw [1,5] (fun kk i wr=>i = I J 0/\kk = I J (c:Int)/\wr=w) (fun _ _ _=>0);case atStart=>exact⟨rfl,rfl,rfl⟩
 case round=>
  obtain⟨rfl,rfl,rfl⟩:=hrel;go_wp2;go_ret;exact⟨rfl,rfl⟩
def DI (w:World) (c:Nat):Calls Tp 102 #[sL none 0 0,I J (c:Int)] w fun o w'=>o = rT (I J (c:Int))/\w'=w:=by
 go_enter func102,ntmps102;go_wp2;go_loopw [1,5] (fun kk i wr=>i = I J 0/\kk = I J (c:Int)/\wr=w) (fun _ _ _=>0);case atStart=>exact⟨rfl,rfl,rfl⟩
 case round=>
  obtain⟨rfl,rfl,rfl⟩:=hrel;go_wp2;go_ret;exact⟨rfl,rfl⟩
def DF (w:World) (c:Nat):Calls Tp 105 #[sL none 0 0,I J (c:Int)] w fun o w'=>o = rT (I J (c:Int))/\w'=w:=by
 go_enter func105,ntmps105;go_wp2;go_loopw [1,5] (fun kk i wr=>i = I J 0/\kk = I J (c:Int)/\wr=w) (fun _ _ _=>0);case atStart=>exact⟨rfl,rfl,rfl⟩
 case round=>
  obtain⟨rfl,rfl,rfl⟩:=hrel;go_wp2;go_ret;exact⟨rfl,rfl⟩
def DE (w:World) (c:Nat):Calls Tp 106 #[sL none 0 0,I J (c:Int)] w fun o w'=>o = rT (I J (c:Int))/\w'=w:=by
 go_enter func106,ntmps106;go_wp2;go_loopw [1,5] (fun kk i wr=>i = I J 0/\kk = I J (c:Int)/\wr=w) (fun _ _ _=>0);case atStart=>exact⟨rfl,rfl,rfl⟩
 case round=>
  obtain⟨rfl,rfl,rfl⟩:=hrel;go_wp2;go_ret;exact⟨rfl,rfl⟩
def cu.up {N:Nat} (h:cu w g N) (he:W.heap[g]?=w.heap[g]?):cu W g N:=
 ⟨fun t ht=>by obtain⟨v,hv⟩:=h.cell t ht;exact⟨v,cU hv he⟩,fun t=>by have:=h.free t;simp only[World.frozen?,he] at this ⊢;exact this⟩
def Gj (he:W.heap[g]?=w.heap[g]?) (o:Nat):W.cell? ⟨g,o,none⟩=w.cell? ⟨g,o,none⟩:=by simp only[World.cell?,he]
end
set_option maxRecDepth 20000
set_option maxHeartbeats 16000000
def DL (w:World) (c:Nat):Calls Tp 99 #[sL nn 0 0,I J (c:Int)] w fun o w'=>o = rT (I J (c:Int))/\w'=w:=by
 go_enter func99,ntmps99;go_wp2;go_loopw [1,5] (fun kk i wr=>i = I J 0/\kk = I J (c:Int)/\wr=w) (fun _ _ _=>0);case atStart=>exact⟨rfl,rfl,rfl⟩
 case round=>
  obtain⟨rfl,rfl,rfl⟩:=hrel;go_wp2;go_ret;exact⟨rfl,rfl⟩
def DK (w:World) (c:Nat):Calls Tp 100 #[sL nn 0 0,I J (c:Int)] w fun o w'=>o = rT (I J (c:Int))/\w'=w:=by
 go_enter func100,ntmps100;go_wp2;go_loopw [1,5] (fun kk i wr=>i = I J 0/\kk = I J (c:Int)/\wr=w) (fun _ _ _=>0);case atStart=>exact⟨rfl,rfl,rfl⟩
 case round=>
  obtain⟨rfl,rfl,rfl⟩:=hrel;go_wp2;go_ret;exact⟨rfl,rfl⟩
def DH (w:World) (c:Nat):Calls Tp 103 #[sL nn 0 0,I J (c:Int)] w fun o w'=>o = rT (I J (c:Int))/\w'=w:=by
 go_enter func103,ntmps103;go_wp2;go_loopw [1,5] (fun kk i wr=>i = I J 0/\kk = I J (c:Int)/\wr=w) (fun _ _ _=>0);case atStart=>exact⟨rfl,rfl,rfl⟩
 case round=>
  obtain⟨rfl,rfl,rfl⟩:=hrel;go_wp2;go_ret;exact⟨rfl,rfl⟩
def DG (w:World) (c:Nat):Calls Tp 104 #[sL nn 0 0,I J (c:Int)] w fun o w'=>o = rT (I J (c:Int))/\w'=w:=by
 go_enter func104,ntmps104;go_wp2;go_loopw [1,5] (fun kk i wr=>i = I J 0/\kk = I J (c:Int)/\wr=w) (fun _ _ _=>0);case atStart=>exact⟨rfl,rfl,rfl⟩
 case round=>
  obtain⟨rfl,rfl,rfl⟩:=hrel;go_wp2;go_ret;exact⟨rfl,rfl⟩
def IJ (w:World) (c0 c1 c2 c3 lo st:Int) (c:Nat) (hc:c<=1000) :
  Calls Tp 41 #[aG #[I J c0,I J c1,I J c2,I J c3,sL nn 0 0,sL nn 0 0,sL nn 0 0,sL nn 0 0,I J lo,I J st],I J (c:Int)] w fun o w'=>o = rT (I J (c:Int))/\Bl w w':=by
 have z1:¬ (c:Int)<0:=om;go_enter func41,ntmps41;go_wp2_with (first | (go_at_call 99;refine (DL _ c).mono ?_;rintro o w1 ⟨rfl,rfl⟩) | (go_at_call 100;refine (DK _ c).mono ?_;rintro o w2 ⟨rfl,rfl⟩) | (go_at_call 101;refine (DJ _ c).mono ?_;rintro o w3 ⟨rfl,rfl⟩) | (go_at_call 102;refine (DI _ c).mono ?_;rintro o w4 ⟨rfl,rfl⟩));go_ret;exact⟨rfl,(bW w.heap.size w).alloc (nR _) _⟩
def MY (w:World) (c0 c1 c2 c3 lo st:Int) (c:Nat) (hc:c<=1000) :
  Calls Tp 42 #[aG #[I J c0,I J c1,I J c2,I J c3,sL nn 0 0,sL nn 0 0,sL nn 0 0,sL nn 0 0,I J lo,I J st],I J (c:Int)] w fun o w'=>o = rT (I J (c:Int))/\Bl w w':=by
 have z1:¬ (c:Int)<0:=om;go_enter func42,ntmps42;go_wp2_with (first | (go_at_call 103;refine (DH _ c).mono ?_;rintro o w1 ⟨rfl,rfl⟩) | (go_at_call 104;refine (DG _ c).mono ?_;rintro o w2 ⟨rfl,rfl⟩) | (go_at_call 105;refine (DF _ c).mono ?_;rintro o w3 ⟨rfl,rfl⟩) | (go_at_call 106;refine (DE _ c).mono ?_;rintro o w4 ⟨rfl,rfl⟩));go_ret;exact⟨rfl,(bW w.heap.size w).alloc (nR _) _⟩
def bx0:R8:=⟨0,0,0,false,0,false,0,[]⟩
def kO (w:World) (l:List Value) (T:TypeId):cu (w.alloc (.cells l.toArray T)) w.heap.size l.length:=by
 have e:(w.alloc (.cells l.toArray T)).heap[w.heap.size]?=some (.cells l.toArray T):=QN w _;refine⟨fun t ht=>?_,fun t=>?_⟩
 .have:=fK e 0 l.length om t ht;rw[qi] at this;exact Option.isSome_iff_exists.1 this.1
 .unfold World.frozen?;rw[e];simp
def EB:(Tp.info? 35).map (·.size)=some 4:=kr
open Go.IntKind renaming i64->J,u32->Zk
section
variable {w:World} {B:Nat} {v:Value}
def aJ {g:Nat} {o:Obj} (hg:w.heap[g]?=sQ o):g<w.heap.size:=by
 rcases Nat.lt_or_ge g w.heap.size with h|h
 .exact h
 .rw[Array.getElem?_eq_none h] at hg;cases hg
def eY {n E sz:Nat} {xs:List Value} (ho:w.ownsRow B E sz v n xs) (hv:v≠sL nn 0 0) :
  ∃ g cap,v = sL (sQ ⟨g,0,nn⟩) n cap/\B<=g/\g<w.heap.size/\n<=cap/\∀ W:World,W.heap[g]?=w.heap[g]?->∀ t,t<n*sz->W.cell? ⟨g,t,nn⟩=xs[t]?:=by
 rcases ho.2 with⟨e,_⟩|⟨g,cap,cur,hv',hb,hg,hcp,hmx,hsz,htk⟩
 .exact Qy e hv
 .refine⟨g,cap,hv',hb,aJ hg,hcp,fun W hW t ht=>?_⟩;have hcur:cur[t]?=xs[t]?:=by rw[<- htk,qT ht,qS]
  have e:W.heap[g]?=sQ (.cells cur E (0,0)):=hW.trans hg;rw[<- hcur];simp[World.cell?,e]
def eI {l:List Nat} (h:aa w B v l) (hv:v≠sL nn 0 0) (hl:∀ x ∈ l,x<256) :
  ∃ g k,v = sL (sQ ⟨g,0,nn⟩) l.length k/\B<=g/\g<w.heap.size/\St B w (fun W=>iB W (sQ ⟨g,0,nn⟩) l.length k l):=by
 obtain⟨g,cap,rfl,h1,h2,h3,h4⟩:=eY h hv;refine⟨g,cap,rfl,h1,h2,fun W hW=>⟨rfl,h3,hl,fun _=>⟨g,0,rfl,fun j hj=>?_⟩⟩⟩;rw[qi,h4 W (hW g h1 h2) j om,nt l j hj]
def mL (l:List Nat) (k:Nat) (h:k<l.length):l.take k++[l[k]]=l.take (k+1):=by rw[qg h]
def eM (w:World) (e:Bool) (i:Nat) (r:Bool) (d:Int) (a:Option Addr) (n cap:Nat) (l:List Nat) (h:iB w a n cap l) (hn:n<=1048576) :
  Calls Tp 118 #[frV e i r d a n cap] w fun o w'=>∃ g k,o = rT (frV e i r d (sQ ⟨g,0,nn⟩) n k)/\(w.heap.size<=g/\g<w'.heap.size/\St (w.heap.size+2) w' (fun W=>iB W (sQ ⟨g,0,nn⟩) n k l)/\w.heap.size+2<=g)/\Bl w w':=by
 have HH:Hid (iB w a n cap l):=h;have HL:Hid (n=l.length):=h.len;have HSm:Hid (∀ x ∈ l,x<256):=h.small;have hcp:=h.cap;clear h;have hB0:Bl w ((w.alloc (.cells #[bO e,I Zk (i:Int),bO r,I J d,sL a n cap] 67)).alloc (.cells #[bO false,I Zk 0,bO false,I J 0,sL nn 0 0] 67)):=Zw.alloc pQ _;have HB0:Hid _:=hB0;clear hB0;go_enter func118,ntmps118;go_wp2_with fail;have hown:=gB ((w.alloc (.cells #[bO e,I Zk (i:Int),bO r,I J d,sL a n cap] 67)).alloc (.cells #[bO false,I Zk 0,bO false,I J 0,sL nn 0 0] 67)) (w.heap.size+2) pQ;have x0:((w.alloc (.cells #[bO e,I Zk (i:Int),bO r,I J d,sL a n cap] 67)).alloc (.cells #[bO false,I Zk 0,bO false,I J 0,sL nn 0 0] 67)).heap[w.heap.size]?=sQ (.cells [bO e,I Zk (i:Int),bO r,I J d,sL a n cap].toArray 67):=by
  rw[Below.heap_alloc _ _ _ pQ];exact QN w _
 have x1:cu ((w.alloc (.cells #[bO e,I Zk (i:Int),bO r,I J d,sL a n cap] 67)).alloc (.cells #[bO false,I Zk 0,bO false,I J 0,sL nn 0 0] 67)) (w.heap.size+1) 5:=by
  have:=kO (w.alloc (.cells #[bO e,I Zk (i:Int),bO r,I J d,sL a n cap] 67)) [bO false,I Zk 0,bO false,I J 0,sL nn 0 0] 67;simpa using this
 have hz2:((w.alloc (.cells #[bO e,I Zk (i:Int),bO r,I J d,sL a n cap] 67)).alloc (.cells #[bO false,I Zk 0,bO false,I J 0,sL nn 0 0] 67)).heap.size=w.heap.size+2:=pQ;have hs2:w.heap.size+1+1=((w.alloc (.cells #[bO e,I Zk (i:Int),bO r,I J d,sL a n cap] 67)).alloc (.cells #[bO false,I Zk 0,bO false,I J 0,sL nn 0 0] 67)).heap.size:=pQ;simp only[hs2];clear hs2;generalize (w.alloc (.cells #[bO e,I Zk (i:Int),bO r,I J d,sL a n cap] 67)).alloc (.cells #[bO false,I Zk 0,bO false,I J 0,sL nn 0 0] 67)=W2 at *;rw[<- hz2] at hown;have HX0:Hid (W2.heap[w.heap.size]?=sQ (.cells [bO e,I Zk (i:Int),bO r,I J d,sL a n cap].toArray 67)):=x0;have HX1:Hid (cu W2 (w.heap.size+1) 5):=x1;have HZ2:Hid (W2.heap.size=w.heap.size+2):=hz2;clear x0 x1 hz2;go_loopw [3,4] (fun v t wr=>∃ k:Nat,k<=n/\t = I J k/\aa wr W2.heap.size v (l.take k)/\(k=0->v = sL (sQ ⟨W2.heap.size,0,nn⟩) 0 0)/\Bl W2 wr) (fun _ t _=>n-(intOf t).toNat);case atStart=>exact⟨0,nZ _,rfl,hown,fun _=>rfl,Zw⟩
 case round=>
  clear hown;obtain⟨k,hk,rfl,ho,hv0,hb⟩:=hrel;have hrg:=dc ((hb.block _ (by have:=HZ2.o;omega)).trans HX0.o);have y0:=hrg 0 (bO e) rfl;have y1:=hrg 1 (I Zk (i:Int)) rfl;have y2:=hrg 2 (bO r) rfl;have y3:=hrg 3 (I J d) rfl;have y4:=hrg 4 (sL a n cap) rfl;simp only[qi,Nat.add_zero] at y0 y1 y2 y3 y4;clear hrg;by_cases hlt:k<n
  .have hkl:k<l.length:=by have:=HL.o;omega
   obtain⟨g0,o0,rfl,hc⟩:=HH.o.cells (by intro e;rw[e] at hkl;exact Qy hkl (nN _));have hx:=hc k hkl;have hgz:g0<w.heap.size:=QC w _ hx;have xk:=(hb.cell (p:=⟨g0,o0+k,nn⟩) (by have:=HZ2.o;show g0<_;omega)).trans ((HB0.o.cell (p:=⟨g0,o0+k,nn⟩) (by exact hgz)).trans hx);have HO:Hid (aa wr W2.heap.size u3 (l.take k)):=ho;have HB:Hid (Bl W2 wr):=hb;have HT:Hid (l.take k++[l[k]]=l.take (k+1)):=mL l k hkl;have HLT:Hid ((l.take k).length<=100000000):=by show _<=_;rw[qj];omega
   clear ho hb hc hx hv0;generalize l[k]=ck at *;go_wp2_with (at_builtin;refine Gu W2 wr rfl (.tmp 13) (.tmp 19) rfl W2.heap.size u3 (l.take k) ck _ rfl rfl HO.o rfl HLT.o HB.o.size HB.o ?_;intro v' w' ho' hb' _);go_roundw;case rel=>exact⟨k+1,om,by go_num,by rw[<- HT.o];exact ho',fun e=>Qy e om,hb'⟩
   case measure=>simp[intOf];omega
  .have hkn:k=n:=om;subst hkn;have htk:l.take k=l:=by rw[qf (by have:=HL.o;omega)]
   rw[htk] at ho;have hnn:u3≠sL nn 0 0:=by
    intro e;by_cases hk0:k=0
    .rw[hv0 hk0] at e;cases e
    .subst e;rcases ho.2 with⟨_,h⟩|⟨g,_,_,h,_⟩
     .have:=HL.o;omega
     .cases h
   obtain⟨g1,k1,rfl,q1,q2,q3⟩:=eI ho hnn HSm.o;rw[<- HL.o] at q3 ⊢;have HQ:Hid (w.heap.size+2<=g1/\g1<wr.heap.size/\St W2.heap.size wr (fun W=>iB W (sQ ⟨g1,0,nn⟩) k k1 l)):=⟨by have:=HZ2.o;omega,q2,q3⟩
   have HB:Hid (Bl w wr):=HB0.o.trans (hb.mono (by have:=HZ2.o;omega));have hZ:=HX1.o.below hb (by have:=HZ2.o;omega);obtain⟨u0,z0⟩:=hZ.cell 0 om;obtain⟨u1,z1⟩:=hZ.cell 1 om;obtain⟨u2,z2⟩:=hZ.cell 2 om;obtain⟨u3,z3⟩:=hZ.cell 3 om;obtain⟨u4,z4⟩:=hZ.cell 4 om;have f0:=hZ.free 0;have f1:=hZ.free 1;have f2:=hZ.free 2;have f3:=hZ.free 3;have f4:=hZ.free 4;clear hZ q1 q2 q3 ho hb hv0 hnn htk;go_wp2;refine QE (v:=frV e i r d (sQ ⟨g1,0,nn⟩) k k1) (by simp[results,results118,go_sem,z0,z1,z2,z3,z4]) rfl ?_;have hq:=HQ.o;have hz:=HZ2.o;refine⟨g1,k1,rfl,⟨om,by simpa using hq.2.1,?_,hq.1⟩,?_⟩
   .rw[show w.heap.size+2=W2.heap.size from hz.symm];exact ((((hq.2.2.set _ _ om _).set _ _ om _).set _ _ om _).set _ _ om _).set _ _ om _
   ·(repeat refine Below.setCell ?_ pQ _)
    exact HB.o
end
open Go renaming World->Wd
section
variable {w w':Wd} {T:TypeId} {b:Nat} {l:List Value} {o:Oper} {a:Act} {Q:Exit->Act->Wd->Prop}
def rC {fn:Func} {x:Tmp} (h:fn.results = #[.cell x T]) (tmps:Array Value) (w:Wd) (b:Nat) (V:Value) (h2:tmps.getD x undef = pT (sQ ⟨b,0,nn⟩)) (hL:(loadVar T ⟨b,0,nn⟩).run Tp w = .ok V w):(results fn tmps).run Tp w = .ok V w:=by
 simp only[Array.getD_eq_getD_getElem?] at h2;simp[results,h,h2,asAddr,hL]
def blk (w:Wd) (b:Nat) (l:List Value) (T:TypeId):Prop:=w.heap[b]?=sQ (.cells l.toArray T (0,0))
def blk.new (w:Wd) (l:List Value) (T:TypeId):blk (w.alloc (.cells l.toArray T)) w.heap.size l T:=QN w _
def blk.alloc (h:blk w b l T) (o:Obj):blk (w.alloc o) b l T:=(Below.heap_alloc _ _ _ (aJ h)).trans h
def blk.below (h:blk w b l T) (hb:Bl w w'):blk w' b l T:=(hb.block _ (aJ h)).trans h
def blk.lt (h:blk w b l T):b<w.heap.size:=aJ h
def blk.put (pre old post vs:List Value) (h:blk w b (pre++old++post) T) (hl:old.length=vs.length):blk (w.setCells b pre.length vs) b (pre++vs++post) T:=fB b T vs old pre post w hl h
def blk.other {b':Nat} (h:blk w b l T) (hb:b≠b') (o:Nat) (vs:List Value):blk (w.setCells b' o vs) b l T:=(sO b' b hb vs w o).trans h
def blk.load (h:blk w b l T):w.rangeAt b 0 l:=dc h
def blk.there (h:blk w b l T) (o n:Nat) (ho:o+n<=l.length):w.there b o n:=fK h o n ho
def blk.cell (h:blk w b l T) (o:Nat) (v:Value) (ho:l[o]?=sQ v):w.cell? ⟨b,o,nn⟩=sQ v:=by
 have:=dc h o v ho;simpa using this
def blk.free (h:blk w b l T) (o:Nat):w.frozen? ⟨b,o,nn⟩=false:=by
 unfold World.frozen?;rw[h];simp
def blk.kept (h:blk w b l T) (he:w'.heap[b]?=w.heap[b]?):blk w' b l T:=he.trans h
def sZ (w:Wd) (b o:Nat) (vs:List Value):(w.setCells b o vs).heap.size=w.heap.size:=by rw[aU,aX]
def sW {B:Nat} (hB:B<=b) {w0 w:Wd} (o:Nat) (vs:List Value) (h:Below B w0 w):Below B w0 (w.setCells b o vs):=by rw[aU];exact bT b B hB w0 vs w o h
def jc:(Tp.info? 67).map (·.size)=sQ 5:=kr
def pP (e:Bool) (i:Int) (r:Bool) (d:Int) (a:Option Addr) (n c:Nat):(#[bO e,I Zk i,bO r,I J d,sL a n c]:Array Value).all (·.oneCell')=true:=
 QK (by simp[Value.oneCell'])
def mh (w:Wd) (x y z:Int) (e:Bool) (i:Nat) (r:Bool) (d:Int) (a:Option Addr) (n cap:Nat) (l:List Nat) (h:iB w a n cap l) (hn:n<=1048576) :
  Calls Tp 117 #[bxV x y z e i r d a n cap] w fun o w'=>∃ g k,o = rT (bxV x y z e i r d (sQ ⟨g,0,nn⟩) n k)/\(w.heap.size<=g/\g<w'.heap.size/\St (w.heap.size+2) w' (fun W=>iB W (sQ ⟨g,0,nn⟩) n k l)/\w.heap.size+2<=g)/\Bl w w':=by
 have HH:Hid (iB w a n cap l):=h;clear h;go_enter func117,ntmps117;go_wp2_with (go_at_call 118;refine (eM _ e i r d a n cap l (HH.o.below ?_) hn).mono ?_)
 .exact Zw.alloc pQ _
 .rintro o w1 ⟨g,k,rfl,⟨hg,hgz,hst,hg2⟩,hb⟩;have HP:Hid (blk w1 w.heap.size ([I J x,I J y,I J z]++[bO e,I Zk (i:Int),bO r,I J d,sL a n cap]++[]) 116):=((blk.new w _ 116).alloc _).below hb;have HR:Hid (blk w1 (w.heap.size+1) ([]++[I J 0,I J 0,I J 0,bO false,I Zk 0,bO false,I J 0,sL nn 0 0]++[]) 116):=by
   have:=(blk.new (w.alloc (.cells [I J x,I J y,I J z,bO e,I Zk (i:Int),bO r,I J d,sL a n cap].toArray 116)) [I J 0,I J 0,I J 0,bO false,I Zk 0,bO false,I J 0,sL nn 0 0] 116).below hb;simpa[Hid] using this
  have HB:Hid (Bl w w1):=(Zw.alloc pQ _).trans (hb.mono (by simp;omega));have HG:Hid (w.heap.size+2<=g/\g<w1.heap.size/\St (w.heap.size+2) w1 (fun W=>iB W (sQ ⟨g,0,nn⟩) n k l)):=by
   simp at hg hst;exact⟨om,hgz,hst.mono om⟩
  clear hb hg hgz hst hg2;go_wp2_with (first
   | (refine Zs 67 #[bO e,I Zk (i:Int),bO r,I J d,sL (sQ ⟨g,0,nn⟩) n k] (HP.o.there 3 5 pQ) jc (pP _ _ _ _ _ _ _) ?_;generalize hW2:World.setCells w1 w.heap.size 3 _=w2;have HW2:Hid (World.setCells w1 w.heap.size 3 [bO e,I Zk (i:Int),bO r,I J d,sL (sQ ⟨g,0,nn⟩) n k]=w2):=hW2;have HP2:Hid (blk w2 w.heap.size [I J x,I J y,I J z,bO e,I Zk (i:Int),bO r,I J d,sL (sQ ⟨g,0,nn⟩) n k] 116):=(hW2 ▸ blk.put [I J x,I J y,I J z] _ [] [bO e,I Zk (i:Int),bO r,I J d,sL (sQ ⟨g,0,nn⟩) n k] HP.o rfl);have HR2:Hid (blk w2 (w.heap.size+1) ([]++[I J 0,I J 0,I J 0,bO false,I Zk 0,bO false,I J 0,sL nn 0 0]++[]) 116):=(hW2 ▸ HR.o.other om _ _);clear hW2)
   | (refine ZG 116 HP2.o.load underlying116 fG ?_)
   | (refine QD (P:=Tp) rfl 116 (.tmp 2) (.tmp 7) rfl (w.heap.size+1) 0 _ rfl rfl (HR2.o.there 0 8 pQ) fG (sT _ _ _ _ _ _ _ _ _ _) ?_;generalize hW3:World.setCells w2 (w.heap.size+1) 0 _=w3;have HW3:Hid (World.setCells w2 (w.heap.size+1) 0 [I J x,I J y,I J z,bO e,I Zk (i:Int),bO r,I J d,sL (sQ ⟨g,0,nn⟩) n k]=w3):=hW3;clear hW3))
  have e2:=HW2.o;have e3:=HW3.o;have hF:blk w3 (w.heap.size+1) [I J x,I J y,I J z,bO e,I Zk (i:Int),bO r,I J d,sL (sQ ⟨g,0,nn⟩) n k] 116:=e3 ▸ blk.put [] _ [] _ HR2.o rfl;have hL:=QI (P:=Tp) w3 (w.heap.size+1) 0 116 _ _ hF.load underlying116 rfl fG;refine QE (v:=bxV x y z e i r d (sQ ⟨g,0,nn⟩) n k) (rC results117 _ w3 (w.heap.size+1) _ rfl hL) rfl ?_;obtain⟨g1,g2,g3⟩:=HG.o;subst e2;subst e3;refine⟨g,k,rfl,⟨om,by rw[sZ,sZ];exact g2,(g3.setCells _ _ om _).setCells _ _ om _,g1⟩,?_⟩;exact sW om _ _ (sW om _ _ HB.o)
def ux (T R E:TypeId) (Z:Value) (sz by_:Nat) (hi0:(Tp.info? E).map (fun i=>(i.zero,i.size,i.bytes))=sQ (sQ Z,sz,by_)) (hu:Tp.underlying T=sQ (.slice E)) (hZ:Z.cells.size=sz) (hsz:0<sz) (hby:by_<=1000)
  (B g n k:Nat) (xs:List Value) (hown:w.ownsRow B E sz (sL (sQ ⟨g,0,nn⟩) n k) n xs) (b:Nat) (news:List Value) (hl:news.length=sz) (hb:w.heap[b]?=sQ (.cells news.toArray E)) (h1:∀ u ∈ news,u.oneCell'=true) (hn:n<=100000000) (hB:B<=w.heap.size) :
  ∃ g' k' w',(Builtin.append_ #[T,T] R #[sL (sQ ⟨g,0,nn⟩) n k,sL (sQ ⟨b,0,nn⟩) 1 1]).run Tp w = .ok (sL (sQ ⟨g',0,nn⟩) (n+1) k') w'/\w'.ownsRow B E sz (sL (sQ ⟨g',0,nn⟩) (n+1) k') (n+1) (xs++news)/\w.grownBy w' (sQ g)/\(g'=g\/g'=w.heap.size)/\g<w'.heap.size/\B<=g':=by
 obtain⟨i0,hi,hz0,hz1,hz2⟩:=QW hi0;have hmul:(n+1)*by_<=(n+1)*1000:=Nat.mul_le_mul_left _ hby
 obtain⟨v',w',hr,h2,h3,h4,h5⟩:=run_append_own_at (P:=Tp) w B T R E i0 Z sz by_ hu hi hz0 hz1 hz2 hZ hsz (sL (sQ ⟨g,0,nn⟩) n k) n xs hown ⟨b,0,nn⟩ 1 1 news (by rw[hl,Nat.one_mul]) (by
  intro j u hj;have:=dc hb j u hj
  rw[Addr.add_lit]
  exact this) h1 (by unfold maxLen;omega) om hB
 have hne:v'≠sL nn 0 0:=by
  intro e;obtain⟨e1,_⟩:=h4.1 e;cases e1
 obtain⟨g',k',rfl,q1,q2,q3,q4⟩:=eY h2 hne;refine⟨g',k',w',hr,h2,h3,?_,nL (QB hown g rfl).2 h3.size,q1⟩;rcases h5 with h|h
 .left;simpa[Value.ownBlock] using h
 .right;simpa[Value.ownBlock] using h
def oV {ops:Array Oper} {rest:List Oper} (hgd:o.guard=nn) (s x:Operand) (T E:TypeId) (Z:Value) (sz by_:Nat) (hi0:(Tp.info? E).map (fun i=>(i.zero,i.size,i.bytes))=sQ (sQ Z,sz,by_)) (hu:Tp.underlying T=sQ (.slice E)) (hZ:Z.cells.size=sz) (hsz:0<sz) (hby:by_<=1000)
  (ho:o.op = .call { callee:=.builtin .append,args:=#[s,x],argTypes:=#[T,T] })
  (B g n k:Nat) (xs:List Value) (hs:a.eval s = sL (sQ ⟨g,0,nn⟩) n k) (hown:w.ownsRow B E sz (sL (sQ ⟨g,0,nn⟩) n k) n xs) (b:Nat) (news:List Value) (hx:a.eval x = sL (sQ ⟨b,0,nn⟩) 1 1) (hl:news.length=sz) (hb:w.heap[b]?=sQ (.cells news.toArray E)) (h1:∀ u ∈ news,u.oneCell'=true) (hn:n<=100000000) (hB:B<=w.heap.size)
  (h:∀ g' k' w',w'.ownsRow B E sz (sL (sQ ⟨g',0,nn⟩) (n+1) k') (n+1) (xs++news)->w.grownBy w' (sQ g)->(g'=g\/g'=w.heap.size)->B<=g'->wpList Tp ops Q rest (a.put o.dst (sL (sQ ⟨g',0,nn⟩) (n+1) k')) w') :
  wpList Tp ops Q (o :: rest) a w:=by
 obtain⟨g',k',w',hr,h2,h3,h4,h5,h6⟩:=ux T o.type E Z sz by_ hi0 hu hZ hsz hby B g n k xs hown b news hl hb h1 hn hB;refine wpList_plain hgd fun K hK=>?_;unfold Oper.wp execOp;simp only[ho,resolve,invoke,builtin,Q7,Sem.run_pure,Result.andThen_ok,List.map_toArray,Qx,List.map_nil,hs,hx,hr];exact hK _ _ (h g' k' w' h2 h3 h4 h6)
def iQ {K:Act->Wd->Prop} (s x:Operand) (T E:TypeId) (Z:Value) (sz by_:Nat) (hi0:(Tp.info? E).map (fun i=>(i.zero,i.size,i.bytes))=sQ (sQ Z,sz,by_)) (hu:Tp.underlying T=sQ (.slice E)) (hZ:Z.cells.size=sz) (hsz:0<sz) (hby:by_<=1000)
  (ho:o.op = .call { callee:=.builtin .append,args:=#[s,x],argTypes:=#[T,T] })
  (B g n k:Nat) (xs:List Value) (hs:a.eval s = sL (sQ ⟨g,0,nn⟩) n k) (hown:w.ownsRow B E sz (sL (sQ ⟨g,0,nn⟩) n k) n xs) (b:Nat) (news:List Value) (hx:a.eval x = sL (sQ ⟨b,0,nn⟩) 1 1) (hl:news.length=sz) (hb:w.heap[b]?=sQ (.cells news.toArray E)) (h1:∀ u ∈ news,u.oneCell'=true) (hn:n<=100000000) (hB:B<=w.heap.size)
  (h:∀ g' k' w',w'.ownsRow B E sz (sL (sQ ⟨g',0,nn⟩) (n+1) k') (n+1) (xs++news)->w.grownBy w' (sQ g)->(g'=g\/g'=w.heap.size)->B<=g'->K (a.put o.dst (sL (sQ ⟨g',0,nn⟩) (n+1) k')) w') :
  o.wp Tp a w K Q:=by
 obtain⟨g',k',w',hr,h2,h3,h4,h5,h6⟩:=ux T o.type E Z sz by_ hi0 hu hZ hsz hby B g n k xs hown b news hl hb h1 hn hB;unfold Oper.wp execOp;simp only[ho,resolve,invoke,builtin,Q7,Sem.run_pure,Result.andThen_ok,List.map_toArray,Qx,List.map_nil,hs,hx,hr];exact h g' k' w' h2 h3 h4 h6
def bC {fn:Func} {x:Tmp} {T:TypeId} {R:Ending->Wd->Prop} {a:Act} {w:Wd} {b:Nat} {V:Value} (h:fn.results=#[.cell x T]) (hL:(loadVar T ⟨b,0,nn⟩).run Tryz.prog w = .ok V w) (hR:R (.returned V) w) (h2:a.tmps.getD x undef = .pointer (sQ ⟨b,0,nn⟩):=by rfl) (hd:a.defers=[]:=by rfl):bodyPost Tryz.prog fn R .ret a w:=QE (rC h _ w b V h2 hL) hd hR
end
section
variable {w w':World} {B E g k sz:Nat}
structure Rc (α:Type) where
 enc:α->List Value
 ld:α->List Nat
 gd:α->Nat
 kd:α->Nat
def Lc {α:Type} (f:α->List Value) (sz:Nat) (hf:∀ p,(f p).length=sz) (rs:List α):(rs.flatMap f).length=rs.length*sz:=by
 induction rs with
 | nil=>simp
 | cons p rs ih=>rw[qI,qe,ih,hf,Qa,Nat.succ_mul,Nat.add_comm]
def oM {α:Type} (f:α->List Value) (sz:Nat) (hf:∀ p,(f p).length=sz):∀ (rs:List α) (j:Nat) (h:j<rs.length) (t:Nat),t<sz->(rs.flatMap f)[j*sz+t]?=(f rs[j])[t]?:=by
 intro rs;induction rs with
 | nil=>intro j h;exact Qy h (nN _)
 | cons p rs ih=>
  intro j h t ht;rw[qI];cases j with
  | zero=>rw[Nat.zero_mul,qi,qZ (by rw[hf];exact ht)];rfl
  | succ j=>
   rw[qY (by rw[hf,Nat.succ_mul];omega),hf,show (j+1)*sz+t-sz=j*sz+t by rw[Nat.succ_mul];omega,ih j (by simpa using h) t ht];rfl
structure cH {α:Type} (F:Rc α) (w:World) (B E sz g k:Nat) (rs:List α):Prop where
 own:w.ownsRow B E sz (sL (sQ ⟨g,0,nn⟩) rs.length k) rs.length (rs.flatMap F.enc)
 dat:∀ p ∈ rs,iB w (sQ ⟨F.gd p,0,nn⟩) (F.ld p).length (F.kd p) (F.ld p)/\B<=F.gd p/\F.gd p≠g/\F.gd p<w.heap.size
def oK {n:Nat} {xs:List Value} (h:w.ownsRow B E sz (sL (sQ ⟨g,0,nn⟩) n k) n xs) (he:w'.heap[g]?=w.heap[g]?):w'.ownsRow B E sz (sL (sQ ⟨g,0,nn⟩) n k) n xs:=by
 refine⟨h.1,?_⟩;rcases h.2 with⟨e,_⟩|⟨g1,cap,cur,hv',hb,hg,hcp,hmx,hsz,htk⟩
 .cases e
 .have e1:g1=g:=by cases hv';rfl
  subst e1;exact .inr ⟨g1,cap,cur,hv',hb,he.trans hg,hcp,hmx,hsz,htk⟩
def cH.lt {α:Type} {F:Rc α} {rs:List α} (h:cH F w B E sz g k rs):B<=g/\g<w.heap.size:=QB h.own g rfl
def cH.kept {α:Type} {F:Rc α} {rs:List α} (h:cH F w B E sz g k rs) (he:∀ b,B<=b->b<w.heap.size->w'.heap[b]?=w.heap[b]?) (hz:w.heap.size<=w'.heap.size):cH F w' B E sz g k rs:=by
 have hl:=h.lt;refine⟨oK h.own (he g hl.1 hl.2),fun p hp=>?_⟩;obtain⟨h1,h2,h3,h4⟩:=h.dat p hp;exact⟨h1.other (he _ h2 h4),h2,h3,nL h4 hz⟩
def cH.below {α:Type} {F:Rc α} {rs:List α} (h:cH F w B E sz g k rs) (hb:Bl w w'):cH F w' B E sz g k rs:=h.kept (fun b _ h2=>hb.block b h2) hb.size
def cH.alloc {α:Type} {F:Rc α} {rs:List α} (h:cH F w B E sz g k rs) (o:Obj):cH F (w.alloc o) B E sz g k rs:=h.kept (fun b _ h2=>Below.heap_alloc _ _ _ h2) pQ
def cH.set {α:Type} {F:Rc α} {rs:List α} (h:cH F w B E sz g k rs) (b o:Nat) (hb:b<B) (vs:List Value):cH F (w.setCells b o vs) B E sz g k rs:=h.kept (fun k hk _=>sO b k om vs w o) (by rw[sZ];exact nR _)
def cH.nil {α:Type} (F:Rc α) (w:World) (B E sz:Nat) (hB:B<=w.heap.size):cH F (w.alloc (.cells #[] E)) B E sz w.heap.size 0 []:=
 ⟨World.ownsRow_made w #[] 0 hB (by decide) pQ,fun p hp=>by cases hp⟩
def cH.snoc {α:Type} {F:Rc α} {g' k':Nat} {rs:List α} (h:cH F w B E sz g k rs) (p:α) (hd:iB w (sQ ⟨F.gd p,0,nn⟩) (F.ld p).length (F.kd p) (F.ld p)) (h1:B<=F.gd p) (h2:F.gd p≠g) (h3:F.gd p<w.heap.size)
  (ho:w'.ownsRow B E sz (sL (sQ ⟨g',0,nn⟩) (rs.length+1) k') (rs.length+1) (rs.flatMap F.enc++F.enc p)) (hg:w.grownBy w' (sQ g)) (hg':g'=g\/g'=w.heap.size):cH F w' B E sz g' k' (rs++[p]):=by
 refine⟨?_,fun q hq=>?_⟩
 .have e1:(rs++[p]).length=rs.length+1:=by simp
  have e2:(rs++[p]).flatMap F.enc=rs.flatMap F.enc++F.enc p:=pQ;rw[e1,e2];exact ho
 .have key:iB w (sQ ⟨F.gd q,0,nn⟩) (F.ld q).length (F.kd q) (F.ld q)/\B<=F.gd q/\F.gd q≠g/\F.gd q<w.heap.size:=by
   rcases List.mem_append.1 hq with hq|hq
   .exact h.dat q hq
   .have e:q=p:=by simpa using hq
    subst e;exact⟨hd,h1,h2,h3⟩
  obtain⟨k1,k2,k3,k4⟩:=key;refine⟨k1.other (hg.block _ k4 (by intro e;exact k3 (Qc e))),k2,?_,nL k4 hg.size⟩;rcases hg' with rfl|rfl
  .exact k3
  .omega
def rc8:Rc (R8 × Nat × Nat):=⟨fun p=>[I J p.1.x,I J p.1.y,I J p.1.z,bO p.1.e,I .u32 (p.1.i:Int),bO p.1.r,I J p.1.d,sL (sQ ⟨p.2.1,0,nn⟩) p.1.l.length p.2.2],fun p=>p.1.l,fun p=>p.2.1,fun p=>p.2.2⟩
def rc5:Rc (R5 × Nat × Nat):=⟨fun p=>[bO p.1.e,I .u32 (p.1.i:Int),bO p.1.r,I J p.1.d,sL (sQ ⟨p.2.1,0,nn⟩) p.1.l.length p.2.2],fun p=>p.1.l,fun p=>p.2.1,fun p=>p.2.2⟩
def cH.r8 {rs:List (R8 × Nat × Nat)} (h:cH rc8 w B E 8 g k rs):St B w (fun W=>aM W (sQ ⟨g,0,nn⟩) rs.length k (rs.map (·.1))):=by
 intro W hW;have hl:=h.lt;have hwW:=fun b hb1 hb2=>hW b hb1 hb2;obtain⟨g1,c1,e1,q1,q2,q3,q4⟩:=eY h.own (by intro e;cases e);cases e1;refine⟨pQ,q3,fun _=>⟨g,0,rfl,fun j hj=>?_⟩⟩;have hj':j<rs.length:=by simpa using hj
 obtain⟨d1,d2,d3,d4⟩:=h.dat rs[j] (qn hj')
 have hc:∀ t,t<8->W.cell? ⟨g,j*8+t,nn⟩=(rc8.enc rs[j])[t]?:=fun t ht=>by
  rw[q4 W (hW g hl.1 hl.2) (j*8+t) om,oM rc8.enc 8 (fun _=>rfl) rs j hj' t ht]
 rw[qi,Qh];exact⟨_,_,_,hc 0 om,hc 1 om,hc 2 om,hc 3 om,hc 4 om,hc 5 om,hc 6 om,hc 7 om,d1.other (hW _ d2 d4)⟩
end
section
variable {w:World} {g o m c k:Nat} {ao:Option Addr} {bs:List R8} {rs:List (R8 × Nat × Nat)}
def at8.range {b:R8} (h:at8 w g o b ao m c):w.rangeAt g o [I J b.x,I J b.y,I J b.z,bO b.e,I .u32 (b.i:Int),bO b.r,I J b.d,sL ao m c]:=by
 intro j v hv;match j,hv with
 | 0,hv=>cases hv;exact h.c0
 | 1,hv=>cases hv;exact h.c1
 | 2,hv=>cases hv;exact h.c2
 | 3,hv=>cases hv;exact h.c3
 | 4,hv=>cases hv;exact h.c4
 | 5,hv=>cases hv;exact h.c5
 | 6,hv=>cases hv;exact h.c6
 | 7,hv=>cases hv;exact h.cs
def at5.range {b:R5} (h:at5 w g o b ao m c):w.rangeAt g o [bO b.e,I .u32 (b.i:Int),bO b.r,I J b.d,sL ao m c]:=by
 intro j v hv;match j,hv with
 | 0,hv=>cases hv;exact h.c0
 | 1,hv=>cases hv;exact h.c1
 | 2,hv=>cases hv;exact h.c2
 | 3,hv=>cases hv;exact h.c3
 | 4,hv=>cases hv;exact h.cs
def at3.range {b:R3} (h:at3 w g o b):w.rangeAt g o [bO b.e,I .u32 b.m,I .u32 b.k]:=by
 intro j v hv;match j,hv with
 | 0,hv=>cases hv;exact h.c0
 | 1,hv=>cases hv;exact h.c1
 | 2,hv=>cases hv;exact h.c2
def blk.loadAt {b:Nat} (pre mid post:List Value) {T:TypeId} (h:blk w b (pre++mid++post) T):w.rangeAt b pre.length mid:=by
 intro j v hv;have hj:j<mid.length:=(List.getElem?_eq_some_iff.1 hv).1;refine h.cell _ _ ?_;rw[qp,qY om,Qp,qZ hj];exact hv
def CA (x y z:Int) (e:Bool) (i:Int) (r:Bool) (d:Int) (a:Option Addr) (n c:Nat):∀ u ∈ [Value.int .i64 x,I J y,I J z,bO e,I .u32 i,bO r,I J d,sL a n c],u.oneCell'=true:=by
 intro u hu;simp only[Qw,Qf,or_false] at hu;rcases hu with rfl | rfl | rfl | rfl | rfl | rfl | rfl | rfl <;> rfl
def Cu (h:rs.map (·.1)=bs.take k) (hk:k<bs.length) (p:R8 × Nat × Nat) (hp:p.1=bs[k]):(rs++[p]).map (·.1)=bs.take (k+1):=by
 rw[List.map_append,h,qg hk,Qx,List.map_nil,hp]
def im (h:rs.map (·.1)=bs.take k) (hk:k<=bs.length):rs.length=k:=by
 have:=congrArg List.length h;rw[qU,qj] at this;omega
end
section
variable {W w W' W'':Wd} {hv gv l:List Value} {B g b k:Nat} {T:TypeId} {bs:List R5} {rs:List (R5 × Nat × Nat)}
def blk.set (h:blk w b l T) (o:Nat) (v:Value):blk (w.setCell ⟨b,o,none⟩ v) b (l.set o v) T:=by
 have:=QP w b o _ _ v h;simpa[blk] using this
def blk.setOther {b':Nat} (h:blk w b l T) (hb:b≠b') (o:Nat) (v:Value):blk (w.setCell ⟨b',o,none⟩ v) b l T:=h.other hb o [v]
abbrev z10:List Value:=zX
structure gS (w:Wd) (hv gv:List Value) (W:Wd):Prop where
 p:blk W w.heap.size hv 41
 r:blk W (w.heap.size+1) z10 41
 q:blk W (w.heap.size+1+1) gv 41
 b:Bl w W
def gS.z (h:gS w hv gv W):w.heap.size+3<=W.heap.size:=h.q.lt
def gS.below (h:gS w hv gv W) (hb:Bl W W'):gS w hv gv W':=⟨h.p.below hb,h.r.below hb,h.q.below hb,h.b.trans (hb.mono h.b.size)⟩
def gS.grown (h:gS w hv gv W) (hg:W.grownBy W' (some g)) (h3:w.heap.size+3<=g):gS w hv gv W':=by
 have hz:=h.z;exact⟨h.p.kept (hg.block _ om (by intro e;cases e;omega)),h.r.kept (hg.block _ om (by intro e;cases e;omega)),h.q.kept (hg.block _ om (by intro e;cases e;omega)),h.b.grown hg om (by intro k e;cases e;omega)⟩
def gS.set (h:gS w hv gv W) (o:Nat) (v:Value):gS w hv (gv.set o v) (W.setCell ⟨w.heap.size+1+1,o,none⟩ v):=
 ⟨h.p.setOther om _ _,h.r.setOther om _ _,h.q.set _ _,h.b.setCell (by show _<=_+_+_;omega) _⟩
structure hS (w:Wd) (hv:List Value) (W:Wd):Prop where
 p:blk W w.heap.size hv 41
 b:Bl w W
def gS.hs (h:gS w hv gv W):hS w hv W:=⟨h.p,h.b⟩
def rc3:R3->List Value:=fun b=>[bO b.e,I .u32 b.m,I .u32 b.k]
def CO (bs:List R3):c3 bs=bs.flatMap rc3:=rfl
def BZ (bs:List R3) (k:Nat) (h:k<bs.length):c3 (bs.take k)++rc3 bs[k]=c3 (bs.take (k+1)):=by
 rw[CO,CO,qg h,List.flatMap_append,qI,List.flatMap_nil,Qv]
def Ev (h:rs.map (·.1)=bs.take k) (hk:k<bs.length) (p:R5 × Nat × Nat) (hp:p.1=bs[k]):(rs++[p]).map (·.1)=bs.take (k+1):=by
 rw[List.map_append,h,qg hk,Qx,List.map_nil,hp]
def mM (h:rs.map (·.1)=bs.take k) (hk:k<=bs.length):rs.length=k:=by
 have:=congrArg List.length h;rw[qU,qj] at this;omega
def EK (e:Bool) (i:Int) (r:Bool) (d:Int) (a:Option Addr) (n c:Nat):∀ u ∈ [Value.bool e,I .u32 i,bO r,I J d,sL a n c],u.oneCell'=true:=by
 intro u hu;simp only[Qw,Qf,or_false] at hu;rcases hu with rfl | rfl | rfl | rfl | rfl <;> rfl
structure Kp (B:Nat) (W W':Wd):Prop where
 same:∀ b,B<=b->b<W.heap.size->W'.heap[b]?=W.heap[b]?
 size:W.heap.size<=W'.heap.size
def Kp.refl (B:Nat) (W:Wd):Kp B W W:=⟨fun _ _ _=>rfl,nR _⟩
def Kp.below (h:Kp B W W') (hb:Bl W' W''):Kp B W W'':=⟨fun b h1 h2=>(hb.block b (nL h2 h.size)).trans (h.same b h1 h2),nT h.size hb.size⟩
def Kp.grown (h:Kp B W W') (hg:W'.grownBy W'' (some g)) (hw:W.heap.size<=g):Kp B W W'':=⟨fun b h1 h2=>(hg.block b (nL h2 h.size) (by intro e;cases e;omega)).trans (h.same b h1 h2),nT h.size hg.size⟩
def Kp.set (h:Kp B W W') (b o:Nat) (hb:b<B) (v:Value):Kp B W (W'.setCell ⟨b,o,none⟩ v):=⟨fun k h1 h2=>(QA _ _ _ _ (by show k≠b;omega)).trans (h.same k h1 h2),by simpa using h.size⟩
def St.kp {p:Wd->Prop} (h:St B W p) (hk:Kp B W W'):St B W' p:=fun V hV=>h V fun k h1 h2=>(hV k h1 (nL h2 hk.size)).trans (hk.same k h1 h2)
def lW {o:Nat} (h:w.rangeAt g o l) (hb:Bl w W) (hg:g<w.heap.size):W.rangeAt g o l:=fun j v hv=>(hb.cell (by exact hg)).trans (h j v hv)
def EL (e:Bool) (m k:Int):∀ u ∈ [Value.bool e,I .u32 m,I .u32 k],u.oneCell'=true:=by
 intro u hu;simp only[Qw,Qf,or_false] at hu;rcases hu with rfl | rfl | rfl <;> rfl
end
def prL:List Value:=[I J 0,I J 0,.func (.func 140) #[] #[],I J 0,I J 0,.func (.func 141) #[] #[],I J 0,I J 5,.func (.func 142) #[] #[],I J 0,I J 15,.func (.func 143) #[] #[],I J 1,I J 7,.func (.func 144) #[] #[],I J 0,I J 2,.func (.func 145) #[] #[],I J 0,I J 7,.func (.func 146) #[] #[],I J 0,I J 10,.func (.func 147) #[] #[]]
def AU:prL.length=24:=rfl
def AT:prL.toArray.all (·.oneCell')=true:=QK (by simp[prL,Value.oneCell'])
def Cx:(Tp.info? 142).map (·.size)=some 24:=kr
def Dj:(Tp.info? 142).map (·.size)=some prL.toArray.size:=Cx
def Di:(Tp.info? 142).map (·.size)=some prL.length:=Cx
def prZ:List Value:=[I J 0,I J 0,.nilFunc,I J 0,I J 0,.nilFunc,I J 0,I J 0,.nilFunc,I J 0,I J 0,.nilFunc,I J 0,I J 0,.nilFunc,I J 0,I J 0,.nilFunc,I J 0,I J 0,.nilFunc,I J 0,I J 0,.nilFunc]
def iN (w:World):Calls Tp 85 #[] w fun o w'=>o = rT (aG prL.toArray)/\Bl w w':=by
 have HN:Hid (blk (w.alloc (.cells prZ.toArray 142)) w.heap.size prZ 142):=blk.new w _ 142;go_enter func85,ntmps85
 go_wp2_with (refine Zs 142 prL.toArray (HN.o.there 0 _ (by rw[qR,AU];decide)) Dj AT ?_;generalize hW8:World.setCells _ w.heap.size 0 _=w8;have HW8:Hid (_=w8):=hW8;clear hW8)
 have e8:=HW8.o;have hF:blk w8 w.heap.size prL 142:=by
  rw[<- e8];have:=blk.put [] prZ [] prL (w:=w.alloc (.cells prZ.toArray 142)) (b:=w.heap.size) (T:=142) (by simpa using HN.o) rfl;have t2:blk ((w.alloc (.cells prZ.toArray 142)).setCells w.heap.size 0 prL) w.heap.size prL 142:=by simpa using this
  exact t2
 have hL:=QI (P:=Tp) w8 w.heap.size 0 142 _ _ hF.load underlying142 rfl Di;refine bC results85 hL ?_;refine⟨rfl,?_⟩;rw[<- e8];exact sW (nR _) 0 _ Zw
end Go.Proofs.YtgfolecanghhhaaGreat
