import Derived.Test.YtnfmjckkibdcaaaGreatDoorK15
import Derived.Test.YtnfmjckkibdcaaaGreatDoorK14
import Derived.Deep.DeepCutAuto
import Derived.Deep.RegionHeld3
namespace Go.Proofs.YtnfmjckkibdcaaaGreatDoor
set_option maxRecDepth 20000
open Go.RowKit
set_option linter.all false
set_option maxHeartbeats 16000000
open Go.Value renaming int->I,slice->sL,bool->bO,pointer->pT,agg->aG
open Go.IntKind renaming i64->J
open Go.Ending renaming returned->rT
open Go.Proofs.Tryz renaming prog->Tp
def gJ (w:World) (b:R8) (a:Option Addr) (n cap:Nat) :
  Calls Tp 185 #[bxV b.x b.y b.z b.e b.i b.r b.d a n cap] w fun o w'=>o = rT (bO (b.x == 2 || b.x == 3))/\Bl w w':=by
 obtain⟨x,y,z,e,i,r,d,l⟩:=b;have HA:Hid (Bl w (w.alloc (.cells #[I J x,I J y,I J z,bO e,I .u32 (i:Int),bO r,I J d,sL a n cap] 106))):=qw;by_cases h2:x=2
 .subst h2;go_enter Tryz.func185,Tryz.ntmps185;go_wp2;go_ret;exact⟨rfl,HA.o⟩
 .have h2':(x == 2)=false:=by simpa using h2
  go_enter Tryz.func185,Tryz.ntmps185;go_wp2;go_ret;exact⟨aj (by simp[h2']),HA.o⟩
def nD (w:World) (b:R8) (st:Int) (a:Option Addr) (n cap:Nat) (h:iB w a n cap b.l) (hst:0<=st/\st<=1000000) :
  Calls Tp 229 #[bxV b.x b.y b.z b.e b.i b.r b.d a n cap,I J st] w fun o w'=>cK o (cZ st b)/\Bl w w':=by
 have hlen:=h.len;obtain⟨x,y,z,e,i,r,d,l⟩:=b;simp only[] at hlen h ⊢;have HA:Hid (Bl w (w.alloc (.cells #[I J x,I J y,I J z,bO e,I .u32 (i:Int),bO r,I J d,sL a n cap] 106))):=qw;have HV:Hid (∀ W,Bl w W->Calls Tp 133 #[frV e i r d a n cap] W fun o w'=>o = rT (bO (vB e i r d n))/\Bl W w'):=fun W hW=>dU W e i r d a n cap l (h.below hW);have HZ:Hid (∀ W,Bl w W->Calls Tp 211 #[frV e i r d a n cap,frV false 0 false 0 none 0 0] W fun o w'=>o = rT (bO ((e == false) && (r == false) && ((i:Int) == ((0:Nat):Int)) && (d == 0) && decide (l=[])))/\Bl W w'):=fun W hW=>pC W e i r d a n cap l (h.below hW) false 0 false 0 none 0 0 [] ⟨rfl,nR _,fun _ hx=>(by cases hx),fun hne=>Qz rfl hne⟩;have HLN:Hid (n=l.length):=hlen;clear h hlen;by_cases hx0:x=0
 .subst hx0;have HOK:Hid (cZ st ⟨0,y,z,e,i,r,d,l⟩↔(y=0/\z=0/\zFr e i r d l.length)):=by show _↔_;unfold cZ;rw[zc rfl]
  by_cases hy0:y=0
  .subst hy0;by_cases hz0:z=0
   .subst hz0;go_enter Tryz.func229,Tryz.ntmps229
    go_wp2_with (go_at_call 211;refine (HZ.o _ HA.o).mono ?_;rintro o w1 ⟨rfl,hb1⟩)
    go_ret;refine⟨⟨_,rfl,?_⟩,HA.o.trans (hb1.mono HA.o.size)⟩;rw[HOK.o];unfold zFr;simp;cases e <;> cases r <;> simp;constructor
    .rintro⟨⟨h1,h2⟩,h3⟩;exact⟨h1,h2,by rw[h3]⟩
    .rintro⟨h1,h2,h3⟩;exact⟨⟨h1,h2⟩,by simpa using h3⟩
   .have hz':(z == 0)=false:=by simpa using hz0
    go_enter Tryz.func229,Tryz.ntmps229;go_wp2;go_ret;exact⟨⟨false,rfl,by rw[HOK.o];simp[hz0]⟩,HA.o⟩
  .have hy':(y == 0)=false:=by simpa using hy0
   go_enter Tryz.func229,Tryz.ntmps229;go_wp2;go_ret;exact⟨⟨false,rfl,by rw[HOK.o];simp[hy0]⟩,HA.o⟩
 .have HOK:Hid (cZ st ⟨x,y,z,e,i,r,d,l⟩↔((1<=x/\x<=3)/\(0<=y/\y<=9999)/\(0<=z/\z<st)/\vB e i r d n=true)):=by show _↔_;unfold cZ;rw[zb hx0,HLN.o]
  have hx':(x == 0)=false:=by simpa using hx0
  have HIR:Hid (∀ (W:World) (v l m:Int) (bb:Bool),decide (l<=v/\v<=m)=bb->Calls Tp 118 #[I J v,I J l,I J m] W fun o w'=>o = rT (bO bb)/\W=w'):=fun W v l m bb hbb=>hbb ▸ dh W v l m;have hs1:IntKind.i64.wrap (st-1)=st-1:=by rw[QS];omega
  clear hx0;by_cases h1:1<=x/\x<=3
  .have J1:Hid (∀ W,Calls Tp 118 #[I J x,I J 1,I J 3] W fun o w'=>o = rT (bO true)/\W=w'):=fun W=>HIR.o W x 1 3 true (qE h1);by_cases h2:0<=y/\y<=9999
   .have J2:Hid (∀ W,Calls Tp 118 #[I J y,I J 0,I J 9999] W fun o w'=>o = rT (bO true)/\W=w'):=fun W=>HIR.o W y 0 9999 true (qE h2);by_cases h3:0<=z/\z<=st-1
    .have J3:Hid (∀ W,Calls Tp 118 #[I J z,I J 0,I J (st-1)] W fun o w'=>o = rT (bO true)/\W=w'):=fun W=>HIR.o W z 0 (st-1) true (qE h3);have HF:Hid (cZ st ⟨x,y,z,e,i,r,d,l⟩↔vB e i r d n=true):=HOK.o.trans ⟨fun h=>h.2.2.2,fun h=>⟨h1,h2,⟨h3.1,om⟩,h⟩⟩;clear h1 h2 h3 HIR HOK HZ;go_enter Tryz.func229,Tryz.ntmps229
     go_wp2_with (first
      | (go_at_call 118;first | (refine (J1.o _).mono ?_;rintro o w1 ⟨rfl,rfl⟩;clear J1) | (refine (J2.o _).mono ?_;rintro o w1 ⟨rfl,rfl⟩;clear J2) | (refine (J3.o _).mono ?_;rintro o w1 ⟨rfl,rfl⟩;clear J3))
      | (go_at_call 133;refine (HV.o _ HA.o).mono ?_;rintro o w1 ⟨rfl,hb1⟩))
     go_ret;exact⟨⟨_,rfl,HF.o.symm⟩,HA.o.trans (hb1.mono HA.o.size)⟩
    .have J3:Hid (∀ W,Calls Tp 118 #[I J z,I J 0,I J (st-1)] W fun o w'=>o = rT (bO false)/\W=w'):=fun W=>HIR.o W z 0 (st-1) false (qo h3);have HF:Hid (¬ cZ st ⟨x,y,z,e,i,r,d,l⟩):=fun h=>h3 (by have:=(HOK.o.1 h).2.2.1;omega);clear h1 h2 h3 HIR HOK HZ HV;go_enter Tryz.func229,Tryz.ntmps229
     go_wp2_with (go_at_call 118;first | (refine (J1.o _).mono ?_;rintro o w1 ⟨rfl,rfl⟩;clear J1) | (refine (J2.o _).mono ?_;rintro o w1 ⟨rfl,rfl⟩;clear J2) | (refine (J3.o _).mono ?_;rintro o w1 ⟨rfl,rfl⟩;clear J3))
     go_ret;exact⟨⟨false,rfl,by simpa using HF.o⟩,HA.o⟩
   .have J2:Hid (∀ W,Calls Tp 118 #[I J y,I J 0,I J 9999] W fun o w'=>o = rT (bO false)/\W=w'):=fun W=>HIR.o W y 0 9999 false (qo h2);have HF:Hid (¬ cZ st ⟨x,y,z,e,i,r,d,l⟩):=fun h=>h2 (HOK.o.1 h).2.1;clear h1 h2 HIR HOK HZ HV;go_enter Tryz.func229,Tryz.ntmps229
    go_wp2_with (go_at_call 118;first | (refine (J1.o _).mono ?_;rintro o w1 ⟨rfl,rfl⟩;clear J1) | (refine (J2.o _).mono ?_;rintro o w1 ⟨rfl,rfl⟩;clear J2))
    go_ret;exact⟨⟨false,rfl,by simpa using HF.o⟩,HA.o⟩
  .have J1:Hid (∀ W,Calls Tp 118 #[I J x,I J 1,I J 3] W fun o w'=>o = rT (bO false)/\W=w'):=fun W=>HIR.o W x 1 3 false (qo h1);have HF:Hid (¬ cZ st ⟨x,y,z,e,i,r,d,l⟩):=fun h=>h1 (HOK.o.1 h).1;clear h1 HIR HOK HZ HV;go_enter Tryz.func229,Tryz.ntmps229
   go_wp2_with (go_at_call 118;refine (J1.o _).mono ?_;rintro o w1 ⟨rfl,rfl⟩;clear J1)
   go_ret;exact⟨⟨false,rfl,by simpa using HF.o⟩,HA.o⟩
open Option renaming none->nn,some->sQ
open Go renaming World->Wd
open Go.IntKind renaming i64->J,u32->zn
variable {w0 W wr:Wd} {room first P gs C g:Nat} {M L:List R5}
def f5 (b:R5) (ao:Option Addr) (m c:Nat):List Value:=[bO b.e,I zn (b.i:Int),bO b.r,I J b.d,sL ao m c]
def f8 (b:R8) (ao:Option Addr) (m c:Nat):List Value:=[I J b.x,I J b.y,I J b.z,bO b.e,I zn (b.i:Int),bO b.r,I J b.d,sL ao m c]
def cE (w0 W:Wd) (g room first:Nat) (L:List R5):Prop:=∀ i (h:i<L.length),∃ ao m c,W.rangeAt g ((first+i) % room*5) (f5 L[i] ao m c)/\iB w0 ao m c L[i].l
def cw (w0 W:Wd) (g room first:Nat) (L:List R8):Prop:=∀ i (h:i<L.length),∃ ao m c,W.rangeAt g ((first+i) % room*8) (f8 L[i] ao m c)/\iB w0 ao m c L[i].l
def wY (W:Wd) (P:Nat) (a:Option Addr) (n cap:Nat) (first:Int) (count:Nat) (h:blk W P [sL a n cap,I J first,I J (count:Int)] 209) (hc:count<=n) (hn:n<=1048576) :
  Calls Tp 287 #[pT (sQ ⟨P,0,nn⟩)] W fun o w'=>o = rT (I J ((n-count:Nat):Int))/\Bl W w':=by
 have y0:=h.cell 0 _ rfl;have y2:=h.cell 2 _ rfl;clear h;go_enter Tryz.func287,Tryz.ntmps287;go_wp2;go_region;all_goals
  go_wp2;go_ret;refine⟨au ?_,(bW _ _).drew⟩;omega
def wX (W:Wd) (P:Nat) (a:Option Addr) (n cap:Nat) (first:Int) (count:Nat) (h:blk W P [sL a n cap,I J first,I J (count:Int)] 211) (hc:count<=n) (hn:n<=1048576) :
  Calls Tp 288 #[pT (sQ ⟨P,0,nn⟩)] W fun o w'=>o = rT (I J ((n-count:Nat):Int))/\Bl W w':=by
 have y0:=h.cell 0 _ rfl;have y2:=h.cell 2 _ rfl;clear h;go_enter Tryz.func288,Tryz.ntmps288;go_wp2;go_region;all_goals
  go_wp2;go_ret;refine⟨au ?_,(bW _ _).drew⟩;omega
def cE.keep {W':Wd} (h:cE w0 W g room first L) (he:W'.heap[g]?=W.heap[g]?):cE w0 W' g room first L:=by
 intro i hi;obtain⟨ao,m,c,h1,h2⟩:=h i hi;exact⟨ao,m,c,fun j v hv=>(dt he _).trans (h1 j v hv),h2⟩
def cE.store (h:cE w0 W g room first L) (hf:first<room) (hL:L.length<room) (hr:bu W g (room*5)) (b:R5) (ao:Option Addr) (m c:Nat) (hb:iB w0 ao m c b.l) :
  cE w0 (W.setCells g ((first+L.length) % room*5) (f5 b ao m c)) g room first (L++[b]):=by
 have hz:(first+L.length) % room<room:=Qs _ om;have hzz:(first+L.length) % room*5+5<=room*5:=by
  have:((first+L.length) % room+1)*5<=room*5:=qD _ hz;omega
 intro i hi;rw[qe,qm] at hi;by_cases e:i=L.length
 .subst e;have hge:(L++[b])[L.length]'pQ=b:=by simp
  rw[hge];refine⟨ao,m,c,?_,hb⟩;intro j v hv;have hj:j<(f5 b ao m c).length:=(List.getElem?_eq_some_iff.1 hv).1;have hj':j<5:=hj;rw[aU,aL g _ W _ j hj (hr.cell _ om),<- (List.getElem?_eq_some_iff.1 hv).2]
 .have hi':i<L.length:=om;have hge:(L++[b])[i]'(by simp;omega)=L[i]:=qO hi';rw[hge];obtain⟨ao',m',c',h1,h2⟩:=h i hi';refine⟨ao',m',c',?_,h2⟩;intro j v hv;have hj:j<5:=(List.getElem?_eq_some_iff.1 hv).1;have hne:(first+i) % room≠(first+L.length) % room:=by
   intro e2;have h3:(first+L.length-(first+i)) % room=0:=Nat.sub_mod_eq_zero_of_mod_eq e2.symm;rw[show first+L.length-(first+i)=L.length-i by omega,Qp om] at h3;omega
  rw[aU,rO g _ W _ _ ?_]
  .exact h1 j v hv
  .show _\/_+5<=_;rcases Nat.lt_or_gt_of_ne hne with h|h
   .left;have:((first+i) % room+1)*5<=(first+L.length) % room*5:=qD _ h;omega
   .right;have:((first+L.length) % room+1)*5<=(first+i) % room*5:=qD _ h;omega
structure lr (w0 W:Wd) (P gs:Nat) (a:Option Addr) (n c:Nat) (its:List R5):Prop where
 len:n=its.length
 cap:n<=c
 cells:its≠[]->∃ g off,a=sQ ⟨g,off,nn⟩/\g≠P/\g≠gs/\g<W.heap.size/\∀ j (h:j<its.length),∃ ao m c',W.rangeAt g (off+j*5) (f5 its[j] ao m c')/\iB w0 ao m c' its[j].l
structure pt5 (w0 W wr:Wd) (P gs room first:Nat) (M:List R5) (C:Nat):Prop where
 p:blk wr P [sL (sQ ⟨gs,0,nn⟩) room room,I J (first:Int),I J (C:Int)] 209
 z:bu wr gs (room*5)
 r:cE w0 wr gs room first M
 k:∀ b,b≠P->b≠gs->b<W.heap.size->wr.heap[b]?=W.heap[b]?
 s:W.heap.size<=wr.heap.size
 o:wr.os=W.os/\wr.tape=W.tape/\wr.output=W.output
def pt5.below {wr':Wd} (h:pt5 w0 W wr P gs room first M C) (hg:gs<W.heap.size) (hb:Bl wr wr'):pt5 w0 W wr' P gs room first M C:=
 ⟨h.p.below hb,h.z.below hb (nL hg h.s),h.r.keep (hb.block _ (nL hg h.s)),fun b h1 h2 h3=>(hb.block _ (nL h3 h.s)).trans (h.k b h1 h2 h3),nT h.s hb.size,⟨hb.os.trans h.o.1,hb.tape.trans h.o.2.1,hb.output.trans h.o.2.2⟩⟩
def pt5.store (h:pt5 w0 W wr P gs room first M C) (hg:gs≠P) (hf:first<room) (hL:M.length<room) (b:R5) (ao:Option Addr) (m c:Nat) (hb:iB w0 ao m c b.l) :
  pt5 w0 W (wr.setCells gs ((first+M.length) % room*5) (f5 b ao m c)) P gs room first (M++[b]) C:=by
 have hz:(first+M.length) % room<room:=Qs _ om;have hzz:(first+M.length) % room*5+5<=room*5:=by
  have:((first+M.length) % room+1)*5<=room*5:=qD _ hz;omega
 refine⟨h.p.other (fun e=>hg e.symm) _ _,by rw[aU];exact h.z.put _ _ hzz,h.r.store hf hL h.z b ao m c hb,fun q h1 h2 h3=>(sO gs q h2 _ _ _).trans (h.k q h1 h2 h3),by rw[sZ];exact h.s,?_⟩;have hbel:=sW (B:=0) (nZ gs) ((first+M.length) % room*5) (f5 b ao m c) (bW 0 wr);exact⟨hbel.os.trans h.o.1,hbel.tape.trans h.o.2.1,hbel.output.trans h.o.2.2⟩
def pt5.count (h:pt5 w0 W wr P gs room first M C) (hg:gs≠P) (C':Nat):pt5 w0 W (wr.setCell ⟨P,2,nn⟩ (I J (C':Int))) P gs room first M C':=by
 have e:∀ b,b≠P->(wr.setCell ⟨P,2,nn⟩ (I J (C':Int))).heap[b]?=wr.heap[b]?:=fun b hb=>QB _ _ _ _ (by exact hb);have hbel:Below 0 wr (wr.setCell ⟨P,2,nn⟩ (I J (C':Int))):=(bW 0 wr).setCell (nZ _) _;exact⟨h.p.set 2 _,h.z.up (e gs hg),h.r.keep (e gs hg),fun q h1 h2 h3=>(e q h1).trans (h.k q h1 h2 h3),nT h.s hbel.size,⟨hbel.os.trans h.o.1,hbel.tape.trans h.o.2.1,hbel.output.trans h.o.2.2⟩⟩
def yt (w0 W:Wd) (P gs room first:Nat) (L its:List R5) (a:Option Addr) (n c:Nat)
  (hP:blk W P [sL (sQ ⟨gs,0,nn⟩) room room,I J (first:Int),I J (L.length:Int)] 209) (hg:gs≠P) (hrow:bu W gs (room*5)) (hgl:gs<W.heap.size) (hring:cE w0 W gs room first L)
  (hf:first<room) (hL:L.length<=room) (hroom:room<=1000) (hits:lr w0 W P gs a n c its) (hn:n<=1048576) (t:Nat) (ht:t=min (room-L.length) n) :
  Calls Tp 265 #[pT (sQ ⟨P,0,nn⟩),sL a n c] W fun o w'=>o = rT (I J (t:Int))/\pt5 w0 W w' P gs room first (L++its.take t) (L.length+t):=by
 have HF:Hid (Calls Tp 287 #[pT (sQ ⟨P,0,nn⟩)] W fun o w'=>o = rT (I J ((room-L.length:Nat):Int))/\Bl W w'):=wY W P _ room room first L.length hP hL om
 have HP0:Hid (pt5 w0 W W P gs room first L L.length):=⟨hP,hrow,hring,fun _ _ _ _=>rfl,nR _,⟨rfl,rfl,rfl⟩⟩
 have hcp:=hits.cap;have hmin:min ((room-L.length:Nat):Int) (n:Int)=(t:Int):=om;have hmax:max (t:Int) 0=(t:Int):=om;have htn:t<=n:=om;have HTR:Hid (L.length+t<=room):=by show _<=_;omega
 have HIT:Hid (lr w0 W P gs a n c its):=hits;have HR:Hid (room<=1000/\first<room):=⟨hroom,hf⟩
 have HG:Hid (gs≠P/\gs<W.heap.size):=⟨hg,hgl⟩
 clear hP hrow hgl hring hits ht hroom hL hg;generalize hfr:((room-L.length:Nat):Int)=fr at *;clear hfr;have hna:a=nn\/∃ ad,a=sQ ad:=by cases a <;> simp
 have hall:Hid (∀ ad,a=sQ ad->ad.spot=nn\/True):=fun _ _=>qy trivial;clear hall;by_cases hnil:its=[]
 .have ht0:t=0:=by have:=HIT.o.len;rw[hnil] at this;simp at this;omega
  have hn0:n=0:=by have:=HIT.o.len;rw[hnil] at this;simpa using this
  subst ht0;subst hn0;subst hnil;clear HIT;have hmin0:min fr 0=0:=by simpa using hmin
  clear hmin hmax;rcases hna with rfl|⟨ad,rfl⟩
  .go_enter Tryz.func265,Tryz.ntmps265;go_wp2_with fail;refine HF.o.mono ?_;rintro o w1 ⟨rfl,hb1⟩;have H1:Hid (pt5 w0 W w1 P gs room first L L.length):=HP0.o.below HG.o.2 hb1;clear hb1;go_wp2_with fail;go_loopw [17] (fun i wr=>i = I J 0/\wr=w1) (fun _ _=>0);case atStart=>exact⟨rfl,rfl⟩
   case round=>
    obtain⟨rfl,rfl⟩:=hrel;go_wp2;go_ret;refine⟨rfl,?_⟩;simpa using H1.o
  .go_enter Tryz.func265,Tryz.ntmps265;go_wp2_with fail;refine HF.o.mono ?_;rintro o w1 ⟨rfl,hb1⟩;have H1:Hid (pt5 w0 W w1 P gs room first L L.length):=HP0.o.below HG.o.2 hb1;clear hb1;go_wp2_with fail;go_loopw [17] (fun i wr=>i = I J 0/\wr=w1) (fun _ _=>0);case atStart=>exact⟨rfl,rfl⟩
   case round=>
    obtain⟨rfl,rfl⟩:=hrel;go_wp2;go_ret;refine⟨rfl,?_⟩;simpa using H1.o
 .obtain⟨g,off,rfl,hgP,hggs,hglt,hc⟩:=HIT.o.cells hnil;have HC:Hid (∀ j (h:j<its.length),∃ ao m c',W.rangeAt g (off+j*5) (f5 its[j] ao m c')/\iB w0 ao m c' its[j].l):=hc;have HGG:Hid (g≠P/\g≠gs/\g<W.heap.size):=⟨hgP,hggs,hglt⟩
  clear hc hgP hggs hglt hna;go_enter Tryz.func265,Tryz.ntmps265;go_wp2_with fail;refine HF.o.mono ?_;rintro o w1 ⟨rfl,hb1⟩;have H1:Hid (pt5 w0 W w1 P gs room first L L.length):=HP0.o.below HG.o.2 hb1;clear hb1 HF;go_wp2_with fail;clear hmin hmax;go_loopw [17] (fun i wr=>∃ k:Nat,k<=t/\i = I J (k:Int)/\pt5 w0 W wr P gs room first (L++its.take k) (L.length+k)) (fun i _=>t-(intOf i).toNat);case atStart=>exact⟨0,nZ _,rfl,by simpa using H1.o⟩
  case round=>
   obtain⟨k,hk,rfl,hp⟩:=hrel;have HPT:Hid (pt5 w0 W wr P gs room first (L++its.take k) (L.length+k)):=hp;clear hp;by_cases hlt:k<t
   .have hkl:k<its.length:=by have:=HIT.o.len;omega
    obtain⟨ao,m,c',hx1,hx2⟩:=HC.o k hkl;have hge:wr.heap[g]?=W.heap[g]?:=HPT.o.k g HGG.o.1 HGG.o.2.1 HGG.o.2.2;have hx1':wr.rangeAt g (off+k*5) (f5 its[k] ao m c'):=fun j v hv=>(dt hge _).trans (hx1 j v hv);have hML:(L++its.take k).length=L.length+k:=by rw[qe,qj];omega
    have HST:Hid (∀ X C,pt5 w0 W X P gs room first (L++its.take k) C->pt5 w0 W (X.setCells gs ((first+(L.length+k)) % room*5) (f5 its[k] ao m c')) P gs room first (L++its.take (k+1)) C):=by
     intro X C hX;have:=hX.store HG.o.1 HR.o.2 (by rw[hML];have:=HTR.o;omega) its[k] ao m c' hx2;rw[hML,qp,<- qg hkl] at this;exact this
    obtain⟨b,hb⟩ : ∃ b,its[k]=b:=⟨_,rfl⟩
    rw[hb] at hx1' HST;obtain⟨e,i,r,d,l⟩:=b;have HRG:Hid (wr.rangeAt g (off+k*5) [bO e,I zn (i:Int),bO r,I J d,sL ao m c']):=hx1';have HP3:Hid (blk (wr.alloc (.cells #[bO e,I zn (i:Int),bO r,I J d,sL ao m c'] 47)) P [sL (sQ ⟨gs,0,nn⟩) room room,I J (first:Int),I J ((L.length+k:Nat):Int)] 209/\blk (wr.alloc (.cells #[bO e,I zn (i:Int),bO r,I J d,sL ao m c'] 47)) wr.heap.size [bO e,I zn (i:Int),bO r,I J d,sL ao m c'] 47):=⟨HPT.o.p.alloc _,blk.new wr _ 47⟩
    have HT3:Hid (pt5 w0 W (wr.alloc (.cells #[bO e,I zn (i:Int),bO r,I J d,sL ao m c'] 47)) P gs room first (L++its.take k) (L.length+k)):=HPT.o.below HG.o.2 qw;have hmod:Int.tmod ((first:Int)+((L.length+k:Nat):Int)) (room:Int)=(((first+(L.length+k)) % room:Nat):Int):=by
     rw[<- Int.natCast_add];exact Int.ofNat_tmod _ _
    have hzr:(first+(L.length+k)) % room<room:=Qs _ (by have:=HR.o;omega);have hZN:(first+(L.length+k)) % room*5+5<=room*5:=by
     have:((first+(L.length+k)) % room+1)*5<=room*5:=qD _ hzr;omega
    have hroom0:¬ (room:Int)=0:=by have:=HR.o;omega
    have hC1:L.length+k+1=L.length+(k+1):=om;have HC1:Hid (L.length+k+1=L.length+(k+1)):=hC1;have hr1:=HR.o.1;have hf1:=HR.o.2;have hC2:=HTR.o;have hCr:L.length+k<=1000:=om
    clear hx1 hx2 hge hx1' hML hb hC1 hC2;generalize hCC:L.length+k=C at *;clear hCC;generalize hZZ:(first+C) % room=Z at *;clear hZZ;go_wp2_with (refine qG 47 HRG.o Tryz.underlying47 jc ?_)
    have HZT:Hid (World.there (World.drew (wr.alloc (.cells #[bO e,I zn (i:Int),bO r,I J d,sL ao m c'] 47))) gs (Z*5) 5):=HT3.o.z.there (Z*5) 5 hZN;clear hZN HRG;have hPBg:wr.heap.size≠gs:=by have:=HG.o.2;have:=HPT.o.s;omega
    have HPG:Hid (wr.heap.size≠gs):=hPBg;clear hPBg;generalize hPB:wr.heap.size=PB at *;clear hPB;generalize hW3:wr.alloc (.cells #[bO e,I zn (i:Int),bO r,I J d,sL ao m c'] 47)=W3 at *;clear hW3 HPT;refine QK (S:=(fun X=>X.cell? ⟨P,0,nn⟩=sQ (sL (sQ ⟨gs,0,nn⟩) room room)/\X.cell? ⟨P,1,nn⟩=sQ (I J (first:Int))/\X.cell? ⟨P,2,nn⟩=sQ (I J (C:Int))/\X.rangeAt PB 0 [bO e,I zn (i:Int),bO r,I J d,sL ao m c'])) kr ?_;have hS:(fun X=>X.cell? ⟨P,0,nn⟩=sQ (sL (sQ ⟨gs,0,nn⟩) room room)/\X.cell? ⟨P,1,nn⟩=sQ (I J (first:Int))/\X.cell? ⟨P,2,nn⟩=sQ (I J (C:Int))/\X.rangeAt PB 0 [bO e,I zn (i:Int),bO r,I J d,sL ao m c']) (World.drew W3):=⟨(HP3.o.1.cell 0 _ rfl),(HP3.o.1.cell 1 _ rfl),(HP3.o.1.cell 2 _ rfl),HP3.o.2.load⟩
    simp only[] at hS;refine tk 0 ?_;refine tk 1 ?_;refine tk 2 ?_;refine tk 3 ?_;refine tk 4 ?_;refine tk 5 ?_;refine tk 6 ?_;refine tk 7 ?_;refine tk 8 ?_;refine tk 9 ?_;refine tk 10 ?_;refine tk 11 ?_;refine wV 12 (I J ((first:Int)+(C:Int))) ?_ hS ?_
    .intro X hSw;clear hS;go_simp;rw[QS];omega
    simp only[aZ];refine tk 13 ?_;refine tk 14 ?_;refine tk 15 ?_;refine tk 16 ?_;refine tk 17 ?_;refine wV 18 (I J (Z:Int)) ?_ hS ?_
    .intro X hSw;clear hS;go_simp;omega
    simp only[aZ];refine wU 19 (aG #[bO e,I zn (i:Int),bO r,I J d,sL ao m c']) rfl (QM (by rfl) 47 (.tmp 7) rfl PB 0 rfl [bO e,I zn (i:Int),bO r,I J d,sL ao m c'] _ (fun X h=>h.2.2.2) Tryz.underlying47 rfl jc) hS ?_;simp only[aZ];refine tk 20 ?_;refine al 21 fun K hK=>?_;rw[zc (by rfl)];refine QU 47 (.tmp 41) (.tmp 40) rfl gs (Z*5) _ rfl rfl HZT.o jc (pP _ _ _ _ _ _ _) ?_;simp only[Act.put,aD,aE,aF];have HT4:Hid (pt5 w0 W (World.setCells (World.drew W3) gs (Z*5) [bO e,I zn (i:Int),bO r,I J d,sL ao m c']) P gs room first (L++its.take (k+1)) C):=HST.o _ _ (HT3.o.below HG.o.2 (bW _ _).drew);have HP4:Hid (blk (World.setCells (World.drew W3) gs (Z*5) [bO e,I zn (i:Int),bO r,I J d,sL ao m c']) PB [bO e,I zn (i:Int),bO r,I J d,sL ao m c'] 47):=(show blk (World.drew W3) PB [bO e,I zn (i:Int),bO r,I J d,sL ao m c'] 47 from HP3.o.2).other HPG.o _ _;refine hK.out _ (World.setCells (World.drew W3) gs (Z*5) [bO e,I zn (i:Int),bO r,I J d,sL ao m c']) ⟨HT4.o.p.cell 0 _ rfl,HT4.o.p.cell 1 _ rfl,HT4.o.p.cell 2 _ rfl,HP4.o.load⟩ (fun hS2=>?_);clear hS hK K;refine QI kr ?_ _;clear hS2 hmod;generalize hW5:World.setCells (World.drew W3) gs (Z*5) _=w5;have HT5:Hid (pt5 w0 W w5 P gs room first (L++its.take (k+1)) C):=(hW5 ▸ HT4.o)
    clear hW5 HT4 HP4;have z2:=HT5.o.p.cell 2 _ rfl;have z2f:=HT5.o.p.free 2;go_wp2;go_roundw;case rel=>
     refine⟨k+1,om,by go_num,?_⟩;rw[<- HC1.o];exact HT5.o.count HG.o.1 (C+1)
    case measure=>simp[intOf];omega
   .have hkt:k=t:=om;subst hkt;go_wp2;go_ret;exact⟨rfl,HPT.o⟩
variable {w0 W wr:World} {room first P gs C g:Nat} {M L:List R8}
def cw.keep {W':World} (h:cw w0 W g room first L) (he:W'.heap[g]?=W.heap[g]?):cw w0 W' g room first L:=by
 intro i hi;obtain⟨ao,m,c,h1,h2⟩:=h i hi;exact⟨ao,m,c,fun j v hv=>(dt he _).trans (h1 j v hv),h2⟩
def cw.store (h:cw w0 W g room first L) (hf:first<room) (hL:L.length<room) (hr:bu W g (room*8)) (b:R8) (ao:Option Addr) (m c:Nat) (hb:iB w0 ao m c b.l) :
  cw w0 (W.setCells g ((first+L.length) % room*8) (f8 b ao m c)) g room first (L++[b]):=by
 have hz:(first+L.length) % room<room:=Qs _ om;have hzz:(first+L.length) % room*8+8<=room*8:=by
  have:((first+L.length) % room+1)*8<=room*8:=qD _ hz;omega
 intro i hi;rw[qe,qm] at hi;by_cases e:i=L.length
 .subst e;have hge:(L++[b])[L.length]'pQ=b:=by simp
  rw[hge];refine⟨ao,m,c,?_,hb⟩;intro j v hv;have hj:j<(f8 b ao m c).length:=(List.getElem?_eq_some_iff.1 hv).1;have hj':j<8:=hj;rw[aU,aL g _ W _ j hj (hr.cell _ om),<- (List.getElem?_eq_some_iff.1 hv).2]
 .have hi':i<L.length:=om;have hge:(L++[b])[i]'(by simp;omega)=L[i]:=qO hi';rw[hge];obtain⟨ao',m',c',h1,h2⟩:=h i hi';refine⟨ao',m',c',?_,h2⟩;intro j v hv;have hj:j<8:=(List.getElem?_eq_some_iff.1 hv).1;have hne:(first+i) % room≠(first+L.length) % room:=by
   intro e2;have h3:(first+L.length-(first+i)) % room=0:=Nat.sub_mod_eq_zero_of_mod_eq e2.symm;rw[show first+L.length-(first+i)=L.length-i by omega,Qp om] at h3;omega
  rw[aU,rO g _ W _ _ ?_]
  .exact h1 j v hv
  .show _\/_+8<=_;rcases Nat.lt_or_gt_of_ne hne with h|h
   .left;have:((first+i) % room+1)*8<=(first+L.length) % room*8:=qD _ h;omega
   .right;have:((first+L.length) % room+1)*8<=(first+i) % room*8:=qD _ h;omega
structure iW (w0 W:World) (P gs:Nat) (a:Option Addr) (n c:Nat) (its:List R8):Prop where
 len:n=its.length
 cap:n<=c
 cells:its≠[]->∃ g off,a=sQ ⟨g,off,nn⟩/\g≠P/\g≠gs/\g<W.heap.size/\∀ j (h:j<its.length),∃ ao m c',W.rangeAt g (off+j*8) (f8 its[j] ao m c')/\iB w0 ao m c' its[j].l
structure pt8 (w0 W wr:World) (P gs room first:Nat) (M:List R8) (C:Nat):Prop where
 p:blk wr P [sL (sQ ⟨gs,0,nn⟩) room room,I J (first:Int),I J (C:Int)] 211
 z:bu wr gs (room*8)
 r:cw w0 wr gs room first M
 k:∀ b,b≠P->b≠gs->b<W.heap.size->wr.heap[b]?=W.heap[b]?
 s:W.heap.size<=wr.heap.size
 o:wr.os=W.os/\wr.tape=W.tape/\wr.output=W.output
def pt8.below {wr':World} (h:pt8 w0 W wr P gs room first M C) (hg:gs<W.heap.size) (hb:Bl wr wr'):pt8 w0 W wr' P gs room first M C:=
 ⟨h.p.below hb,h.z.below hb (nL hg h.s),h.r.keep (hb.block _ (nL hg h.s)),fun b h1 h2 h3=>(hb.block _ (nL h3 h.s)).trans (h.k b h1 h2 h3),nT h.s hb.size,⟨hb.os.trans h.o.1,hb.tape.trans h.o.2.1,hb.output.trans h.o.2.2⟩⟩
def pt8.store (h:pt8 w0 W wr P gs room first M C) (hg:gs≠P) (hf:first<room) (hL:M.length<room) (b:R8) (ao:Option Addr) (m c:Nat) (hb:iB w0 ao m c b.l) :
  pt8 w0 W (wr.setCells gs ((first+M.length) % room*8) (f8 b ao m c)) P gs room first (M++[b]) C:=by
 have hz:(first+M.length) % room<room:=Qs _ om;have hzz:(first+M.length) % room*8+8<=room*8:=by
  have:((first+M.length) % room+1)*8<=room*8:=qD _ hz;omega
 refine⟨h.p.other (fun e=>hg e.symm) _ _,by rw[aU];exact h.z.put _ _ hzz,h.r.store hf hL h.z b ao m c hb,fun q h1 h2 h3=>(sO gs q h2 _ _ _).trans (h.k q h1 h2 h3),by rw[sZ];exact h.s,?_⟩;have hbel:=sW (B:=0) (nZ gs) ((first+M.length) % room*8) (f8 b ao m c) (bW 0 wr);exact⟨hbel.os.trans h.o.1,hbel.tape.trans h.o.2.1,hbel.output.trans h.o.2.2⟩
def pt8.count (h:pt8 w0 W wr P gs room first M C) (hg:gs≠P) (C':Nat):pt8 w0 W (wr.setCell ⟨P,2,nn⟩ (I J (C':Int))) P gs room first M C':=by
 have e:∀ b,b≠P->(wr.setCell ⟨P,2,nn⟩ (I J (C':Int))).heap[b]?=wr.heap[b]?:=fun b hb=>QB _ _ _ _ (by exact hb);have hbel:Below 0 wr (wr.setCell ⟨P,2,nn⟩ (I J (C':Int))):=(bW 0 wr).setCell (nZ _) _;exact⟨h.p.set 2 _,h.z.up (e gs hg),h.r.keep (e gs hg),fun q h1 h2 h3=>(e q h1).trans (h.k q h1 h2 h3),nT h.s hbel.size,⟨hbel.os.trans h.o.1,hbel.tape.trans h.o.2.1,hbel.output.trans h.o.2.2⟩⟩
def Jb (w0 W:World) (P gs room first:Nat) (L its:List R8) (a:Option Addr) (n c:Nat)
  (hP:blk W P [sL (sQ ⟨gs,0,nn⟩) room room,I J (first:Int),I J (L.length:Int)] 211) (hg:gs≠P) (hrow:bu W gs (room*8)) (hgl:gs<W.heap.size) (hring:cw w0 W gs room first L)
  (hf:first<room) (hL:L.length<=room) (hroom:room<=1000) (hits:iW w0 W P gs a n c its) (hn:n<=1048576) (t:Nat) (ht:t=min (room-L.length) n) :
  Calls Tp 266 #[pT (sQ ⟨P,0,nn⟩),sL a n c] W fun o w'=>o = rT (I J (t:Int))/\pt8 w0 W w' P gs room first (L++its.take t) (L.length+t):=by
 have HF:Hid (Calls Tp 288 #[pT (sQ ⟨P,0,nn⟩)] W fun o w'=>o = rT (I J ((room-L.length:Nat):Int))/\Bl W w'):=wX W P _ room room first L.length hP hL om
 have HP0:Hid (pt8 w0 W W P gs room first L L.length):=⟨hP,hrow,hring,fun _ _ _ _=>rfl,nR _,⟨rfl,rfl,rfl⟩⟩
 have hcp:=hits.cap;have hmin:min ((room-L.length:Nat):Int) (n:Int)=(t:Int):=om;have hmax:max (t:Int) 0=(t:Int):=om;have htn:t<=n:=om;have HTR:Hid (L.length+t<=room):=by show _<=_;omega
 have HIT:Hid (iW w0 W P gs a n c its):=hits;have HR:Hid (room<=1000/\first<room):=⟨hroom,hf⟩
 have HG:Hid (gs≠P/\gs<W.heap.size):=⟨hg,hgl⟩
 clear hP hrow hgl hring hits ht hroom hL hg;generalize hfr:((room-L.length:Nat):Int)=fr at *;clear hfr;have hna:a=nn\/∃ ad,a=sQ ad:=by cases a <;> simp
 have hall:Hid (∀ ad,a=sQ ad->ad.spot=nn\/True):=fun _ _=>qy trivial;clear hall;by_cases hnil:its=[]
 .have ht0:t=0:=by have:=HIT.o.len;rw[hnil] at this;simp at this;omega
  have hn0:n=0:=by have:=HIT.o.len;rw[hnil] at this;simpa using this
  subst ht0;subst hn0;subst hnil;clear HIT;have hmin0:min fr 0=0:=by simpa using hmin
  clear hmin hmax;rcases hna with rfl|⟨ad,rfl⟩
  .go_enter Tryz.func266,Tryz.ntmps266;go_wp2_with fail;refine HF.o.mono ?_;rintro o w1 ⟨rfl,hb1⟩;have H1:Hid (pt8 w0 W w1 P gs room first L L.length):=HP0.o.below HG.o.2 hb1;clear hb1;go_wp2_with fail;go_loopw [17] (fun i wr=>i = I J 0/\wr=w1) (fun _ _=>0);case atStart=>exact⟨rfl,rfl⟩
   case round=>
    obtain⟨rfl,rfl⟩:=hrel;go_wp2;go_ret;refine⟨rfl,?_⟩;simpa using H1.o
  .go_enter Tryz.func266,Tryz.ntmps266;go_wp2_with fail;refine HF.o.mono ?_;rintro o w1 ⟨rfl,hb1⟩;have H1:Hid (pt8 w0 W w1 P gs room first L L.length):=HP0.o.below HG.o.2 hb1;clear hb1;go_wp2_with fail;go_loopw [17] (fun i wr=>i = I J 0/\wr=w1) (fun _ _=>0);case atStart=>exact⟨rfl,rfl⟩
   case round=>
    obtain⟨rfl,rfl⟩:=hrel;go_wp2;go_ret;refine⟨rfl,?_⟩;simpa using H1.o
 .obtain⟨g,off,rfl,hgP,hggs,hglt,hc⟩:=HIT.o.cells hnil;have HC:Hid (∀ j (h:j<its.length),∃ ao m c',W.rangeAt g (off+j*8) (f8 its[j] ao m c')/\iB w0 ao m c' its[j].l):=hc;have HGG:Hid (g≠P/\g≠gs/\g<W.heap.size):=⟨hgP,hggs,hglt⟩
  clear hc hgP hggs hglt hna;go_enter Tryz.func266,Tryz.ntmps266;go_wp2_with fail;refine HF.o.mono ?_;rintro o w1 ⟨rfl,hb1⟩;have H1:Hid (pt8 w0 W w1 P gs room first L L.length):=HP0.o.below HG.o.2 hb1;clear hb1 HF;go_wp2_with fail;clear hmin hmax;go_loopw [17] (fun i wr=>∃ k:Nat,k<=t/\i = I J (k:Int)/\pt8 w0 W wr P gs room first (L++its.take k) (L.length+k)) (fun i _=>t-(intOf i).toNat);case atStart=>exact⟨0,nZ _,rfl,by simpa using H1.o⟩
  case round=>
   obtain⟨k,hk,rfl,hp⟩:=hrel;have HPT:Hid (pt8 w0 W wr P gs room first (L++its.take k) (L.length+k)):=hp;clear hp;by_cases hlt:k<t
   .have hkl:k<its.length:=by have:=HIT.o.len;omega
    obtain⟨ao,m,c',hx1,hx2⟩:=HC.o k hkl;have hge:wr.heap[g]?=W.heap[g]?:=HPT.o.k g HGG.o.1 HGG.o.2.1 HGG.o.2.2;have hx1':wr.rangeAt g (off+k*8) (f8 its[k] ao m c'):=fun j v hv=>(dt hge _).trans (hx1 j v hv);have hML:(L++its.take k).length=L.length+k:=by rw[qe,qj];omega
    have HST:Hid (∀ X C,pt8 w0 W X P gs room first (L++its.take k) C->pt8 w0 W (X.setCells gs ((first+(L.length+k)) % room*8) (f8 its[k] ao m c')) P gs room first (L++its.take (k+1)) C):=by
     intro X C hX;have:=hX.store HG.o.1 HR.o.2 (by rw[hML];have:=HTR.o;omega) its[k] ao m c' hx2;rw[hML,qp,<- qg hkl] at this;exact this
    obtain⟨b,hb⟩ : ∃ b,its[k]=b:=⟨_,rfl⟩
    rw[hb] at hx1' HST;obtain⟨x,y,z,e,i,r,d,l⟩:=b;have HRG:Hid (wr.rangeAt g (off+k*8) [I J x,I J y,I J z,bO e,I zn (i:Int),bO r,I J d,sL ao m c']):=hx1';have HP3:Hid (blk (wr.alloc (.cells #[I J x,I J y,I J z,bO e,I zn (i:Int),bO r,I J d,sL ao m c'] 240)) P [sL (sQ ⟨gs,0,nn⟩) room room,I J (first:Int),I J ((L.length+k:Nat):Int)] 211/\blk (wr.alloc (.cells #[I J x,I J y,I J z,bO e,I zn (i:Int),bO r,I J d,sL ao m c'] 240)) wr.heap.size [I J x,I J y,I J z,bO e,I zn (i:Int),bO r,I J d,sL ao m c'] 240):=⟨HPT.o.p.alloc _,blk.new wr _ 240⟩
    have HT3:Hid (pt8 w0 W (wr.alloc (.cells #[I J x,I J y,I J z,bO e,I zn (i:Int),bO r,I J d,sL ao m c'] 240)) P gs room first (L++its.take k) (L.length+k)):=HPT.o.below HG.o.2 qw;have hmod:Int.tmod ((first:Int)+((L.length+k:Nat):Int)) (room:Int)=(((first+(L.length+k)) % room:Nat):Int):=by
     rw[<- Int.natCast_add];exact Int.ofNat_tmod _ _
    have hzr:(first+(L.length+k)) % room<room:=Qs _ (by have:=HR.o;omega);have hZN:(first+(L.length+k)) % room*8+8<=room*8:=by
     have:((first+(L.length+k)) % room+1)*8<=room*8:=qD _ hzr;omega
    have hroom0:¬ (room:Int)=0:=by have:=HR.o;omega
    have hC1:L.length+k+1=L.length+(k+1):=om;have HC1:Hid (L.length+k+1=L.length+(k+1)):=hC1;have hr1:=HR.o.1;have hf1:=HR.o.2;have hC2:=HTR.o;have hCr:L.length+k<=1000:=om
    clear hx1 hx2 hge hx1' hML hb hC1 hC2;generalize hCC:L.length+k=C at *;clear hCC;generalize hZZ:(first+C) % room=Z at *;clear hZZ;go_wp2_with (refine qG 240 HRG.o Tryz.underlying240 fw ?_)
    have HZT:Hid (World.there (World.drew (wr.alloc (.cells #[I J x,I J y,I J z,bO e,I zn (i:Int),bO r,I J d,sL ao m c'] 240))) gs (Z*8) 8):=HT3.o.z.there (Z*8) 8 hZN;clear hZN HRG;have hPBg:wr.heap.size≠gs:=by have:=HG.o.2;have:=HPT.o.s;omega
    have HPG:Hid (wr.heap.size≠gs):=hPBg;clear hPBg;generalize hPB:wr.heap.size=PB at *;clear hPB;generalize hW3:wr.alloc (.cells #[I J x,I J y,I J z,bO e,I zn (i:Int),bO r,I J d,sL ao m c'] 240)=W3 at *;clear hW3 HPT;refine QK (S:=(fun X=>X.cell? ⟨P,0,nn⟩=sQ (sL (sQ ⟨gs,0,nn⟩) room room)/\X.cell? ⟨P,1,nn⟩=sQ (I J (first:Int))/\X.cell? ⟨P,2,nn⟩=sQ (I J (C:Int))/\X.rangeAt PB 0 [I J x,I J y,I J z,bO e,I zn (i:Int),bO r,I J d,sL ao m c'])) kr ?_;have hS:(fun X=>X.cell? ⟨P,0,nn⟩=sQ (sL (sQ ⟨gs,0,nn⟩) room room)/\X.cell? ⟨P,1,nn⟩=sQ (I J (first:Int))/\X.cell? ⟨P,2,nn⟩=sQ (I J (C:Int))/\X.rangeAt PB 0 [I J x,I J y,I J z,bO e,I zn (i:Int),bO r,I J d,sL ao m c']) (World.drew W3):=⟨(HP3.o.1.cell 0 _ rfl),(HP3.o.1.cell 1 _ rfl),(HP3.o.1.cell 2 _ rfl),HP3.o.2.load⟩
    simp only[] at hS;refine tk 0 ?_;refine tk 1 ?_;refine tk 2 ?_;refine tk 3 ?_;refine tk 4 ?_;refine tk 5 ?_;refine tk 6 ?_;refine tk 7 ?_;refine tk 8 ?_;refine tk 9 ?_;refine tk 10 ?_;refine tk 11 ?_;refine wV 12 (I J ((first:Int)+(C:Int))) ?_ hS ?_
    .intro X hSw;clear hS;go_simp;rw[QS];omega
    simp only[aZ];refine tk 13 ?_;refine tk 14 ?_;refine tk 15 ?_;refine tk 16 ?_;refine tk 17 ?_;refine wV 18 (I J (Z:Int)) ?_ hS ?_
    .intro X hSw;clear hS;go_simp;omega
    simp only[aZ];refine wU 19 (aG #[I J x,I J y,I J z,bO e,I zn (i:Int),bO r,I J d,sL ao m c']) rfl (QM (by rfl) 240 (.tmp 7) rfl PB 0 rfl [I J x,I J y,I J z,bO e,I zn (i:Int),bO r,I J d,sL ao m c'] _ (fun X h=>h.2.2.2) Tryz.underlying240 rfl fw) hS ?_;simp only[aZ];refine tk 20 ?_;refine al 21 fun K hK=>?_;rw[zc (by rfl)];refine QU 240 (.tmp 41) (.tmp 40) rfl gs (Z*8) _ rfl rfl HZT.o fw (sT _ _ _ _ _ _ _ _ _ _) ?_;simp only[Act.put,aD,aE,aF];have HT4:Hid (pt8 w0 W (World.setCells (World.drew W3) gs (Z*8) [I J x,I J y,I J z,bO e,I zn (i:Int),bO r,I J d,sL ao m c']) P gs room first (L++its.take (k+1)) C):=HST.o _ _ (HT3.o.below HG.o.2 (bW _ _).drew);have HP4:Hid (blk (World.setCells (World.drew W3) gs (Z*8) [I J x,I J y,I J z,bO e,I zn (i:Int),bO r,I J d,sL ao m c']) PB [I J x,I J y,I J z,bO e,I zn (i:Int),bO r,I J d,sL ao m c'] 240):=(show blk (World.drew W3) PB [I J x,I J y,I J z,bO e,I zn (i:Int),bO r,I J d,sL ao m c'] 240 from HP3.o.2).other HPG.o _ _;refine hK.out _ (World.setCells (World.drew W3) gs (Z*8) [I J x,I J y,I J z,bO e,I zn (i:Int),bO r,I J d,sL ao m c']) ⟨HT4.o.p.cell 0 _ rfl,HT4.o.p.cell 1 _ rfl,HT4.o.p.cell 2 _ rfl,HP4.o.load⟩ (fun hS2=>?_);clear hS hK K;refine QI kr ?_ _;clear hS2 hmod;generalize hW5:World.setCells (World.drew W3) gs (Z*8) _=w5;have HT5:Hid (pt8 w0 W w5 P gs room first (L++its.take (k+1)) C):=(hW5 ▸ HT4.o)
    clear hW5 HT4 HP4;have z2:=HT5.o.p.cell 2 _ rfl;have z2f:=HT5.o.p.free 2;go_wp2;go_roundw;case rel=>
     refine⟨k+1,om,by go_num,?_⟩;rw[<- HC1.o];exact HT5.o.count HG.o.1 (C+1)
    case measure=>simp[intOf];omega
   .have hkt:k=t:=om;subst hkt;go_wp2;go_ret;exact⟨rfl,HPT.o⟩
variable {w W:World} {P gs n c:Nat} {a:Option Addr}
def xX:(Tp.info? 209).map (·.size)=sQ 3:=kr
def xW:(Tp.info? 211).map (·.size)=sQ 3:=kr
def lr.of {its:List R5} (h:cl w a n c its) (hb:Bl w W) (hP:w.heap.size<=P) (hg:w.heap.size<=gs):lr w W P gs a n c its:=by
 refine⟨h.len,h.cap,fun hne=>?_⟩;obtain⟨g,off,e,hc⟩:=h.cells hne;have hlt:g<w.heap.size:=by
  obtain⟨ao,m,c',hx⟩:=hc 0 (List.length_pos_iff.2 hne);exact QD w _ hx.c0
 refine⟨g,off,e,om,om,nL hlt hb.size,fun j hj=>?_⟩;obtain⟨ao,m,c',hx⟩:=hc j hj;exact⟨ao,m,c',cP hx.range hb hlt,hx.dat⟩
def oj (w0 w:World) (hb0:Bl w0 w) (room:Nat) (its:List R5) (a:Option Addr) (n c:Nat) (h:cl w0 a n c its) (h1:1<=room) (h2:room<=1000) (hn:n<=room) :
  Calls Tp 233 #[I J (room:Int),sL a n c] w fun o w'=>∃ gs,o = rT (aG #[sL (sQ ⟨gs,0,nn⟩) room room,I J 0,I J (n:Int)])/\w.heap.size<=gs/\gs<w'.heap.size/\bu w' gs (room*5)/\cE w0 w' gs room 0 its/\Bl w w':=by
 have hmax:max (room:Int) 0=(room:Int):=om;have HB0:Hid (Bl w0 w):=hb0;have HH:Hid (cl w0 a n c its):=h;have HL:Hid (n=its.length):=h.len;have H0:Hid (Bl w (w.alloc (.cells #[sL nn 0 0,I J 0,I J 0] 209))/\blk (w.alloc (.cells #[sL nn 0 0,I J 0,I J 0] 209)) w.heap.size [sL nn 0 0,I J 0,I J 0] 209):=⟨qw,blk.new w _ 209⟩
 have HR:Hid (1<=room/\room<=1000/\n<=room):=⟨h1,h2,hn⟩
 clear h h1 hn hb0;go_enter Tryz.func233,Tryz.ntmps233
 go_wp2_with (refine fQ _ 38 47 _ 5 48 Tryz.info47 Tryz.underlying38 (by decide) rfl _ _ rfl _ room rfl rfl rfl om ?_;intro w2 hz2 hg2 hl2;have H2:Hid (bu w2 (w.heap.size+1) (room*5)/\w.heap.size+1<w2.heap.size/\Bl w w2/\blk w2 w.heap.size [sL nn 0 0,I J 0,I J 0] 209):=⟨by simpa using hz2,by simpa using hl2,⟨hg2.os.trans H0.o.1.os,hg2.tape.trans H0.o.1.tape,hg2.output.trans H0.o.1.output,nT H0.o.1.size hg2.size,fun q hq=>(hg2.block q (nL hq H0.o.1.size) pQ).trans (H0.o.1.block q hq)⟩,(hg2.block _ H0.o.2.lt pQ).trans H0.o.2⟩;clear hz2 hg2 hl2)
 have HP3:Hid (blk (w2.alloc (.cells #[sL (sQ ⟨w.heap.size+1,0,nn⟩) room room,I J 0,I J 0] 209)) w2.heap.size [sL (sQ ⟨w.heap.size+1,0,nn⟩) room room,I J ((0:Nat):Int),I J (([]:List R5).length:Int)] 209):=blk.new w2 _ 209;have HB3:Bl w (w2.alloc (.cells #[sL (sQ ⟨w.heap.size+1,0,nn⟩) room room,I J 0,I J 0] 209)):=H2.o.2.2.1.alloc H2.o.2.2.1.size _;refine (yt w0 _ w2.heap.size (w.heap.size+1) room 0 [] its a n c HP3.o (by have:=H2.o.2.1;omega) (H2.o.1.below qw H2.o.2.1) (by have:=H2.o.2.1;simp;omega) (fun i hi=>Qz hi (nN _)) HR.o.1 (nZ _) HR.o.2.1 (lr.of HH.o (HB0.o.trans (HB3.mono HB0.o.size)) (nT HB0.o.size H2.o.2.2.1.size) (by have:=HB0.o.size;omega)) (by have:=HR.o;omega) n (by have:=HR.o;simp;omega)).mono ?_;rintro o w4 ⟨rfl,hp⟩;have H4:Hid (pt5 w0 (w2.alloc (.cells #[sL (sQ ⟨w.heap.size+1,0,nn⟩) room room,I J 0,I J 0] 209)) w4 w2.heap.size (w.heap.size+1) room 0 its n/\blk w4 w.heap.size [sL nn 0 0,I J 0,I J 0] 209/\Bl w w4/\w.heap.size+1<w4.heap.size/\w.heap.size<w2.heap.size):=by
  have hs2:=H2.o.2.1;have hp':pt5 w0 (w2.alloc (.cells #[sL (sQ ⟨w.heap.size+1,0,nn⟩) room room,I J 0,I J 0] 209)) w4 w2.heap.size (w.heap.size+1) room 0 its n:=by
   have e1:([]:List R5)++its.take n=its:=by rw[HL.o];simp
   have e2:([]:List R5).length+n=n:=pQ;rw[e1,e2] at hp;exact hp
  refine⟨hp',(hp'.k w.heap.size om om (by simp;omega)).trans ((Below.heap_alloc _ _ _ om).trans H2.o.2.2.2),⟨hp'.o.1.trans HB3.os,hp'.o.2.1.trans HB3.tape,hp'.o.2.2.trans HB3.output,nT HB3.size hp'.s,fun q hq=>(hp'.k q om om (nL hq HB3.size)).trans (HB3.block q hq)⟩,?_,om⟩;have:=hp'.s;simp at this;omega
 clear hp HB3 HP3;have y0:=H4.o.1.p.cell 0 _ rfl;have y1:=H4.o.1.p.cell 1 _ rfl;have y2:=H4.o.1.p.cell 2 _ rfl;have x0:=H4.o.2.1.cell 0 _ rfl;have x1:=H4.o.2.1.cell 1 _ rfl;have x2:=H4.o.2.1.cell 2 _ rfl;have z0:=H4.o.2.1.free 0;have z1:=H4.o.2.1.free 1;have z2:=H4.o.2.1.free 2;have hsz:=H4.o.2.2.2.2;go_wp2_with fail;clear y0 y1 y2 x0 x1 x2 z0 z1 z2 hsz;have hF:=((H4.o.2.1.set 0 (sL (sQ ⟨w.heap.size+1,0,nn⟩) room room)).set 1 (I J 0)).set 2 (I J (n:Int));have hL:=QJ (P:=Tp) _ w.heap.size 0 209 _ _ hF.load Tryz.underlying209 rfl xX;refine bC Tryz.results233 hL ?_;have e:∀ b,b≠w.heap.size->(((w4.setCell ⟨w.heap.size,0,nn⟩ (sL (sQ ⟨w.heap.size+1,0,nn⟩) room room)).setCell ⟨w.heap.size,1,nn⟩ (I J 0)).setCell ⟨w.heap.size,2,nn⟩ (I J (n:Int))).heap[b]?=w4.heap[b]?:=fun b hb=>(QB _ _ _ _ (by exact hb)).trans ((QB _ _ _ _ (by exact hb)).trans (QB _ _ _ _ (by exact hb)));refine⟨w.heap.size+1,rfl,om,by simpa using H4.o.2.2.2.1,H4.o.1.z.up (e _ om),H4.o.1.r.keep (e _ om),?_⟩;exact ((H4.o.2.2.1.setCell (by exact nR _) _).setCell (by exact nR _) _).setCell (by exact nR _) _
def iW.of {its:List R8} (h:aM w a n c its) (hb:Bl w W) (hP:w.heap.size<=P) (hg:w.heap.size<=gs):iW w W P gs a n c its:=by
 refine⟨h.len,h.cap,fun hne=>?_⟩;obtain⟨g,off,e,hc⟩:=h.cells hne;have hlt:g<w.heap.size:=by
  obtain⟨ao,m,c',hx⟩:=hc 0 (List.length_pos_iff.2 hne);exact QD w _ hx.c0
 refine⟨g,off,e,om,om,nL hlt hb.size,fun j hj=>?_⟩;obtain⟨ao,m,c',hx⟩:=hc j hj;exact⟨ao,m,c',cP hx.range hb hlt,hx.dat⟩
def oh (w0 w:World) (hb0:Bl w0 w) (room:Nat) (its:List R8) (a:Option Addr) (n c:Nat) (h:aM w0 a n c its) (h1:1<=room) (h2:room<=1000) (hn:n<=room) :
  Calls Tp 234 #[I J (room:Int),sL a n c] w fun o w'=>∃ gs,o = rT (aG #[sL (sQ ⟨gs,0,nn⟩) room room,I J 0,I J (n:Int)])/\w.heap.size<=gs/\gs<w'.heap.size/\bu w' gs (room*8)/\cw w0 w' gs room 0 its/\Bl w w':=by
 have hmax:max (room:Int) 0=(room:Int):=om;have HB0:Hid (Bl w0 w):=hb0;have HH:Hid (aM w0 a n c its):=h;have HL:Hid (n=its.length):=h.len;have H0:Hid (Bl w (w.alloc (.cells #[sL nn 0 0,I J 0,I J 0] 211))/\blk (w.alloc (.cells #[sL nn 0 0,I J 0,I J 0] 211)) w.heap.size [sL nn 0 0,I J 0,I J 0] 211):=⟨qw,blk.new w _ 211⟩
 have HR:Hid (1<=room/\room<=1000/\n<=room):=⟨h1,h2,hn⟩
 clear h h1 hn hb0;go_enter Tryz.func234,Tryz.ntmps234
 go_wp2_with (refine fQ _ 39 240 _ 8 72 Tryz.info240 Tryz.underlying39 (by decide) rfl _ _ rfl _ room rfl rfl rfl om ?_;intro w2 hz2 hg2 hl2;have H2:Hid (bu w2 (w.heap.size+1) (room*8)/\w.heap.size+1<w2.heap.size/\Bl w w2/\blk w2 w.heap.size [sL nn 0 0,I J 0,I J 0] 211):=⟨by simpa using hz2,by simpa using hl2,⟨hg2.os.trans H0.o.1.os,hg2.tape.trans H0.o.1.tape,hg2.output.trans H0.o.1.output,nT H0.o.1.size hg2.size,fun q hq=>(hg2.block q (nL hq H0.o.1.size) pQ).trans (H0.o.1.block q hq)⟩,(hg2.block _ H0.o.2.lt pQ).trans H0.o.2⟩;clear hz2 hg2 hl2)
 have HP3:Hid (blk (w2.alloc (.cells #[sL (sQ ⟨w.heap.size+1,0,nn⟩) room room,I J 0,I J 0] 211)) w2.heap.size [sL (sQ ⟨w.heap.size+1,0,nn⟩) room room,I J ((0:Nat):Int),I J (([]:List R8).length:Int)] 211):=blk.new w2 _ 211;have HB3:Bl w (w2.alloc (.cells #[sL (sQ ⟨w.heap.size+1,0,nn⟩) room room,I J 0,I J 0] 211)):=H2.o.2.2.1.alloc H2.o.2.2.1.size _;refine (Jb w0 _ w2.heap.size (w.heap.size+1) room 0 [] its a n c HP3.o (by have:=H2.o.2.1;omega) (H2.o.1.below qw H2.o.2.1) (by have:=H2.o.2.1;simp;omega) (fun i hi=>Qz hi (nN _)) HR.o.1 (nZ _) HR.o.2.1 (iW.of HH.o (HB0.o.trans (HB3.mono HB0.o.size)) (nT HB0.o.size H2.o.2.2.1.size) (by have:=HB0.o.size;omega)) (by have:=HR.o;omega) n (by have:=HR.o;simp;omega)).mono ?_;rintro o w4 ⟨rfl,hp⟩;have H4:Hid (pt8 w0 (w2.alloc (.cells #[sL (sQ ⟨w.heap.size+1,0,nn⟩) room room,I J 0,I J 0] 211)) w4 w2.heap.size (w.heap.size+1) room 0 its n/\blk w4 w.heap.size [sL nn 0 0,I J 0,I J 0] 211/\Bl w w4/\w.heap.size+1<w4.heap.size/\w.heap.size<w2.heap.size):=by
  have hs2:=H2.o.2.1;have hp':pt8 w0 (w2.alloc (.cells #[sL (sQ ⟨w.heap.size+1,0,nn⟩) room room,I J 0,I J 0] 211)) w4 w2.heap.size (w.heap.size+1) room 0 its n:=by
   have e1:([]:List R8)++its.take n=its:=by rw[HL.o];simp
   have e2:([]:List R8).length+n=n:=pQ;rw[e1,e2] at hp;exact hp
  refine⟨hp',(hp'.k w.heap.size om om (by simp;omega)).trans ((Below.heap_alloc _ _ _ om).trans H2.o.2.2.2),⟨hp'.o.1.trans HB3.os,hp'.o.2.1.trans HB3.tape,hp'.o.2.2.trans HB3.output,nT HB3.size hp'.s,fun q hq=>(hp'.k q om om (nL hq HB3.size)).trans (HB3.block q hq)⟩,?_,om⟩;have:=hp'.s;simp at this;omega
 clear hp HB3 HP3;have y0:=H4.o.1.p.cell 0 _ rfl;have y1:=H4.o.1.p.cell 1 _ rfl;have y2:=H4.o.1.p.cell 2 _ rfl;have x0:=H4.o.2.1.cell 0 _ rfl;have x1:=H4.o.2.1.cell 1 _ rfl;have x2:=H4.o.2.1.cell 2 _ rfl;have z0:=H4.o.2.1.free 0;have z1:=H4.o.2.1.free 1;have z2:=H4.o.2.1.free 2;have hsz:=H4.o.2.2.2.2;go_wp2_with fail;clear y0 y1 y2 x0 x1 x2 z0 z1 z2 hsz;have hF:=((H4.o.2.1.set 0 (sL (sQ ⟨w.heap.size+1,0,nn⟩) room room)).set 1 (I J 0)).set 2 (I J (n:Int));have hL:=QJ (P:=Tp) _ w.heap.size 0 211 _ _ hF.load Tryz.underlying211 rfl xW;refine bC Tryz.results234 hL ?_;have e:∀ b,b≠w.heap.size->(((w4.setCell ⟨w.heap.size,0,nn⟩ (sL (sQ ⟨w.heap.size+1,0,nn⟩) room room)).setCell ⟨w.heap.size,1,nn⟩ (I J 0)).setCell ⟨w.heap.size,2,nn⟩ (I J (n:Int))).heap[b]?=w4.heap[b]?:=fun b hb=>(QB _ _ _ _ (by exact hb)).trans ((QB _ _ _ _ (by exact hb)).trans (QB _ _ _ _ (by exact hb)));refine⟨w.heap.size+1,rfl,om,by simpa using H4.o.2.2.2.1,H4.o.1.z.up (e _ om),H4.o.1.r.keep (e _ om),?_⟩;exact ((H4.o.2.2.1.setCell (by exact nR _) _).setCell (by exact nR _) _).setCell (by exact nR _) _
def rm (w:World) (v:Int):Calls Tp 184 #[I J v] w fun o w'=>o = rT (bO (decide (v=0\/v=1)))/\w=w':=by
 by_cases h0:v=0
 .subst h0;go_enter Tryz.func184,Tryz.ntmps184;go_wp2;go_ret;exact⟨pQ,rfl⟩
 .have d0:(v == 0)=false:=by simpa using h0
  by_cases h1:v=1
  .subst h1;go_enter Tryz.func184,Tryz.ntmps184;go_wp2;go_ret;exact⟨pQ,rfl⟩
  .have d1:(v == 1)=false:=by simpa using h1
   go_enter Tryz.func184,Tryz.ntmps184;go_wp2;go_ret;exact⟨by simp[h0,h1],rfl⟩
def vmB (C:Co):Bool:=!(!decide (C.lv=0\/C.lv=1) || ((C.lv == 1) && !((C.p == 2) && C.wk && decide (0<C.ct)))) && !(C.wk && (!(C.p == 2) || C.ov)) && !(C.ov && !(C.p == 2) && !(C.p == 3) && !(C.p == 4)) && !(C.ow && !(C.wk && C.tx)) && !(C.tx && ((C.p == 0) || (C.p == 7))) && !(!C.tx && (C.p == 6)) && (!C.ak || (C.p == 7))
def j1 (l p c:Int) (wk:Bool):(!decide (l=0\/l=1) || (l == 1 && !(p == 2 && wk && decide (0<c))))=false↔((0<=l/\l<=1)/\(l=1->p=2/\wk=true/\0<c)):=by
 rw[Bool.or_eq_false_iff,k4];refine and_congr ?_ Iff.rfl;simp;omega
def j5 (p:Int) (tx:Bool):(tx && (p == 0 || p == 7))=false↔(tx=true->p≠7/\p≠0):=by rw[Bool.or_comm];exact k8 p tx
def j6 (p:Int) (tx:Bool):(!tx && p == 6)=false↔(p=6->tx=true):=by rw[Bool.and_comm];exact k9 p tx
def j7 (p:Int) (ak:Bool):(!ak || p == 7)=true↔(ak=true->p=7):=by cases ak <;> simp
def vmG (w:World) (C:Co) (s:Sl):Calls Tp 121 #[aG (coL C s).toArray] w fun o w'=>cK o (vmB C=true)/\Bl w w':=by
 obtain⟨X,HX⟩ : ∃ X:Prop,Hid (X↔(vmB C=true)):=⟨_,Iff.rfl⟩
 rw[<- HX.o];have H1:Hid (ctS w w.heap.size C s (w.alloc (.cells (coL C s).toArray 43))):=ctS.new w C s;have HIL:Hid (∀ W,Calls Tp 184 #[I J C.lv] W fun o w'=>o = rT (bO (decide (C.lv=0\/C.lv=1)))/\W=w'):=fun W=>rm W C.lv;have HB:Hid (vmB C=(!(!decide (C.lv=0\/C.lv=1) || ((C.lv == 1) && !((C.p == 2) && C.wk && decide (0<C.ct)))) && !(C.wk && (!(C.p == 2) || C.ov)) && !(C.ov && !(C.p == 2) && !(C.p == 3) && !(C.p == 4)) && !(C.ow && !(C.wk && C.tx)) && !(C.tx && ((C.p == 0) || (C.p == 7))) && !(!C.tx && (C.p == 6)) && (!C.ak || (C.p == 7)))):=rfl;obtain⟨lk,elk⟩ : ∃ b:Bool,decide (C.lv=0\/C.lv=1)=b:=⟨_,rfl⟩
 obtain⟨l1,el1,nl1⟩ : ∃ b:Bool,(C.lv == 1)=b/\(C.lv != 1) = !b:=⟨_,rfl,rfl⟩
 obtain⟨p2,ep2,np2⟩ : ∃ b:Bool,(C.p == 2)=b/\(C.p != 2) = !b:=⟨_,rfl,rfl⟩
 obtain⟨cp,ecp⟩ : ∃ b:Bool,decide (0<C.ct)=b:=⟨_,rfl⟩
 obtain⟨p3,ep3,np3⟩ : ∃ b:Bool,(C.p == 3)=b/\(C.p != 3) = !b:=⟨_,rfl,rfl⟩
 obtain⟨p4,ep4,np4⟩ : ∃ b:Bool,(C.p == 4)=b/\(C.p != 4) = !b:=⟨_,rfl,rfl⟩
 obtain⟨pz,epz,npz⟩ : ∃ b:Bool,(C.p == 0)=b/\(C.p != 0) = !b:=⟨_,rfl,rfl⟩
 obtain⟨p7,ep7,np7⟩ : ∃ b:Bool,(C.p == 7)=b/\(C.p != 7) = !b:=⟨_,rfl,rfl⟩
 obtain⟨p6,ep6,np6⟩ : ∃ b:Bool,(C.p == 6)=b/\(C.p != 6) = !b:=⟨_,rfl,rfl⟩
 obtain⟨wk,ewk⟩ : ∃ b:Bool,C.wk=b:=⟨_,rfl⟩
 obtain⟨ov,eov⟩ : ∃ b:Bool,C.ov=b:=⟨_,rfl⟩
 obtain⟨ow,eow⟩ : ∃ b:Bool,C.ow=b:=⟨_,rfl⟩
 obtain⟨tx,etx⟩ : ∃ b:Bool,C.tx=b:=⟨_,rfl⟩
 obtain⟨ak,eak⟩ : ∃ b:Bool,C.ak=b:=⟨_,rfl⟩
 rw[elk,el1,ep2,ecp,ep3,ep4,epz,ep7,ep6,ewk,eov,eow,etx,eak] at HB;rw[elk] at HIL;have y0:=H1.o.p.cell 0 (I J C.p) rfl;have y1:=H1.o.p.cell 1 (I J C.ct) rfl;have y2:=H1.o.p.cell 2 (I J C.lv) rfl;have y3:=H1.o.p.cell 3 (bO C.wk) rfl;have y4:=H1.o.p.cell 4 (bO C.ov) rfl;have y5:=H1.o.p.cell 5 (bO C.ow) rfl;have y6:=H1.o.p.cell 6 (bO C.tx) rfl;have y7:=H1.o.p.cell 7 (bO C.ak) rfl;rw[ewk] at y3;rw[eov] at y4;rw[eow] at y5;rw[etx] at y6;rw[eak] at y7;clear ewk eov eow etx eak elk;generalize hwc:w.alloc (.cells (coL C s).toArray 43)=wc at *;go_enter Tryz.func121,Tryz.ntmps121;go_upto_region 2 with fail
 try rw[hwc]
 go_cut [7] (fun x wx=>x = bO (!lk || (l1 && !(p2 && wk && cp)))/\wx=wc);case first=>
  as_aux_lemma=>
  clear HX HB;have hh:(lk=true/\l1=true/\p2=true/\wk=true/\cp=true)\/(lk=true/\l1=true/\p2=true/\wk=true/\cp=false)\/(lk=true/\l1=true/\p2=true/\wk=false)\/(lk=true/\l1=true/\p2=false)\/(lk=true/\l1=false)\/(lk=false):=by cases lk <;> cases l1 <;> cases p2 <;> cases wk <;> cases cp <;> simp
  rcases hh with⟨rfl,rfl,rfl,rfl,rfl⟩ | ⟨rfl,rfl,rfl,rfl,rfl⟩ | ⟨rfl,rfl,rfl,rfl⟩ | ⟨rfl,rfl,rfl⟩ | ⟨rfl,rfl⟩ | rfl <;> (
   go_wp2_with (go_at_call 184;refine (HIL.o _).mono ?_;rintro o w2 ⟨rfl,rfl⟩)
   go_meet
   case rel=>exact⟨rfl,rfl⟩)
 case rest=>
 obtain⟨rfl,hw⟩:=hcut;subst hw;obtain⟨c1,g⟩ : ∃ b,(!lk || (l1 && !(p2 && wk && cp)))=b:=⟨_,rfl⟩
 rw[g];have G1:Hid ((!lk || (l1 && !(p2 && wk && cp)))=c1):=g;clear g;cases c1;case true=>
  as_aux_lemma=>
  go_wp2_with fail;go_ret;refine⟨⟨_,rfl,?_⟩,H1.o.b⟩;rw[HX.o,HB.o,G1.o];simp
 case false=>
 go_upto_region 4 with fail
 go_cut [30] (fun x wx=>x = bO (wk && (!p2 || ov))/\wx=wc);case first=>
  as_aux_lemma=>
  clear HX HB;have hh:(wk=true/\p2=true/\ov=true)\/(wk=true/\p2=true/\ov=false)\/(wk=true/\p2=false)\/(wk=false):=by cases wk <;> cases p2 <;> cases ov <;> simp
  rcases hh with⟨rfl,rfl,rfl⟩ | ⟨rfl,rfl,rfl⟩ | ⟨rfl,rfl⟩ | rfl <;> (
   go_wp2_with fail;go_meet
   case rel=>exact⟨rfl,rfl⟩)
 case rest=>
 obtain⟨rfl,hw⟩:=hcut;subst hw;obtain⟨c2,g⟩ : ∃ b,(wk && (!p2 || ov))=b:=⟨_,rfl⟩
 rw[g];have G2:Hid ((wk && (!p2 || ov))=c2):=g;clear g;cases c2;case true=>
  as_aux_lemma=>
  go_wp2_with fail;go_ret;refine⟨⟨_,rfl,?_⟩,H1.o.b⟩;rw[HX.o,HB.o,G2.o];simp
 case false=>
 go_upto_region 6 with fail
 go_cut [41] (fun x wx=>x = bO (ov && !p2 && !p3 && !p4)/\wx=wc);case first=>
  as_aux_lemma=>
  clear HX HB;have hh:(ov=true/\p2=true)\/(ov=true/\p2=false/\p3=true)\/(ov=true/\p2=false/\p3=false/\p4=true)\/(ov=true/\p2=false/\p3=false/\p4=false)\/(ov=false):=by cases ov <;> cases p2 <;> cases p3 <;> cases p4 <;> simp
  rcases hh with⟨rfl,rfl⟩ | ⟨rfl,rfl,rfl⟩ | ⟨rfl,rfl,rfl,rfl⟩ | ⟨rfl,rfl,rfl,rfl⟩ | rfl <;> (
   go_wp2_with fail;go_meet
   case rel=>exact⟨rfl,rfl⟩)
 case rest=>
 obtain⟨rfl,hw⟩:=hcut;subst hw;obtain⟨c3,g⟩ : ∃ b,(ov && !p2 && !p3 && !p4)=b:=⟨_,rfl⟩
 rw[g];have G3:Hid ((ov && !p2 && !p3 && !p4)=c3):=g;clear g;cases c3;case true=>
  as_aux_lemma=>
  go_wp2_with fail;go_ret;refine⟨⟨_,rfl,?_⟩,H1.o.b⟩;rw[HX.o,HB.o,G3.o];simp
 case false=>
 go_upto_region 8 with fail
 go_cut [58] (fun x wx=>x = bO (ow && !(wk && tx))/\wx=wc);case first=>
  as_aux_lemma=>
  clear HX HB;have hh:(ow=true/\wk=true/\tx=true)\/(ow=true/\wk=true/\tx=false)\/(ow=true/\wk=false)\/(ow=false):=by cases ow <;> cases wk <;> cases tx <;> simp
  rcases hh with⟨rfl,rfl,rfl⟩ | ⟨rfl,rfl,rfl⟩ | ⟨rfl,rfl⟩ | rfl <;> (
   go_wp2_with fail;go_meet
   case rel=>exact⟨rfl,rfl⟩)
 case rest=>
 obtain⟨rfl,hw⟩:=hcut;subst hw;obtain⟨c4,g⟩ : ∃ b,(ow && !(wk && tx))=b:=⟨_,rfl⟩
 rw[g];have G4:Hid ((ow && !(wk && tx))=c4):=g;clear g;cases c4;case true=>
  as_aux_lemma=>
  go_wp2_with fail;go_ret;refine⟨⟨_,rfl,?_⟩,H1.o.b⟩;rw[HX.o,HB.o,G4.o];simp
 case false=>
 go_upto_region 10 with fail
 go_cut [70] (fun x wx=>x = bO (tx && (pz || p7))/\wx=wc);case first=>
  as_aux_lemma=>
  clear HX HB;have hh:(tx=true/\pz=true)\/(tx=true/\pz=false/\p7=true)\/(tx=true/\pz=false/\p7=false)\/(tx=false):=by cases tx <;> cases pz <;> cases p7 <;> simp
  rcases hh with⟨rfl,rfl⟩ | ⟨rfl,rfl,rfl⟩ | ⟨rfl,rfl,rfl⟩ | rfl <;> (
   go_wp2_with fail;go_meet
   case rel=>exact⟨rfl,rfl⟩)
 case rest=>
 obtain⟨rfl,hw⟩:=hcut;subst hw;obtain⟨c5,g⟩ : ∃ b,(tx && (pz || p7))=b:=⟨_,rfl⟩
 rw[g];have G5:Hid ((tx && (pz || p7))=c5):=g;clear g;cases c5;case true=>
  as_aux_lemma=>
  go_wp2_with fail;go_ret;refine⟨⟨_,rfl,?_⟩,H1.o.b⟩;rw[HX.o,HB.o,G5.o];simp
 case false=>
 go_upto_region 12 with fail
 go_cut [83] (fun x wx=>x = bO (!tx && p6)/\wx=wc);case first=>
  as_aux_lemma=>
  clear HX HB;have hh:(tx=true)\/(tx=false/\p6=true)\/(tx=false/\p6=false):=by cases tx <;> cases p6 <;> simp
  rcases hh with rfl | ⟨rfl,rfl⟩ | ⟨rfl,rfl⟩ <;> (
   go_wp2_with fail;go_meet
   case rel=>exact⟨rfl,rfl⟩)
 case rest=>
 obtain⟨rfl,hw⟩:=hcut;subst hw;obtain⟨c6,g⟩ : ∃ b,(!tx && p6)=b:=⟨_,rfl⟩
 rw[g];have G6:Hid ((!tx && p6)=c6):=g;clear g;cases c6;case true=>
  as_aux_lemma=>
  go_wp2_with fail;go_ret;refine⟨⟨_,rfl,?_⟩,H1.o.b⟩;rw[HX.o,HB.o,G6.o];simp
 case false=>
 rw[HB.o,G1.o,G2.o,G3.o,G4.o,G5.o,G6.o] at HX;go_upto_region 14 with fail
 go_cut [2] (fun x wx=>x = bO (!ak || p7)/\wx=wc);case first=>
  clear HX HB;have hh:(ak=true/\p7=true)\/(ak=true/\p7=false)\/(ak=false):=by cases ak <;> cases p7 <;> simp
  rcases hh with⟨rfl,rfl⟩ | ⟨rfl,rfl⟩ | rfl <;> (
   go_wp2_with fail;go_meet
   case rel=>exact⟨rfl,rfl⟩)
 case rest=>
 obtain⟨rfl,hw⟩:=hcut;subst hw;go_wp2_with fail;go_ret;refine⟨⟨_,rfl,?_⟩,H1.o.b⟩;rw[HX.o];simp
def Cy:(Tp.info? 147).map (·.size)=some 3:=kr
def E8 (w:Wd):(Instr.index 149 (aG prL.toArray) (I J 0)).run Tp w = .ok (aG #[I J 0,I J 0,.func (.func 187) #[] #[]]) w:=by
 simp[Instr.index,asIntOf,Q4 Tryz.underlying149,prL,part,Tryz.sizeOf147,Tryz.isAgg147]
def E7 (w:Wd):(Instr.index 149 (aG prL.toArray) (I J 1)).run Tp w = .ok (aG #[I J 0,I J 0,.func (.func 188) #[] #[]]) w:=by
 simp[Instr.index,asIntOf,Q4 Tryz.underlying149,prL,part,Tryz.sizeOf147,Tryz.isAgg147]
def E6 (w:Wd):(Instr.index 149 (aG prL.toArray) (I J 2)).run Tp w = .ok (aG #[I J 0,I J 5,.func (.func 189) #[] #[]]) w:=by
 simp[Instr.index,asIntOf,Q4 Tryz.underlying149,prL,part,Tryz.sizeOf147,Tryz.isAgg147]
def E5 (w:Wd):(Instr.index 149 (aG prL.toArray) (I J 3)).run Tp w = .ok (aG #[I J 0,I J 15,.func (.func 190) #[] #[]]) w:=by
 simp[Instr.index,asIntOf,Q4 Tryz.underlying149,prL,part,Tryz.sizeOf147,Tryz.isAgg147]
def E0 (w:Wd):(Instr.index 149 (aG prL.toArray) (I J 4)).run Tp w = .ok (aG #[I J 1,I J 7,.func (.func 191) #[] #[]]) w:=by
 simp[Instr.index,asIntOf,Q4 Tryz.underlying149,prL,part,Tryz.sizeOf147,Tryz.isAgg147]
def EZ (w:Wd):(Instr.index 149 (aG prL.toArray) (I J 5)).run Tp w = .ok (aG #[I J 0,I J 2,.func (.func 192) #[] #[]]) w:=by
 simp[Instr.index,asIntOf,Q4 Tryz.underlying149,prL,part,Tryz.sizeOf147,Tryz.isAgg147]
def EY (w:Wd):(Instr.index 149 (aG prL.toArray) (I J 6)).run Tp w = .ok (aG #[I J 0,I J 7,.func (.func 193) #[] #[]]) w:=by
 simp[Instr.index,asIntOf,Q4 Tryz.underlying149,prL,part,Tryz.sizeOf147,Tryz.isAgg147]
def EX (w:Wd):(Instr.index 149 (aG prL.toArray) (I J 7)).run Tp w = .ok (aG #[I J 0,I J 10,.func (.func 194) #[] #[]]) w:=by
 simp[Instr.index,asIntOf,Q4 Tryz.underlying149,prL,part,Tryz.sizeOf147,Tryz.isAgg147]
def vcG (w:Wd) (C:Co) (s:Sl) (lo hi:Int) (n:Nat) (hix:∀ W,(Instr.index 149 (aG prL.toArray) (I J C.p)).run Tp W = .ok (aG #[I J lo,I J hi,.func (.func n) #[] #[]]) W) :
  Calls Tp 120 #[aG (coL C s).toArray] w fun o w'=>cK o ((0<=C.te/\C.te<=256)/\(0<=C.re/\C.re<=255)/\(C.p=7↔C.te=256)/\(lo<=C.ct/\C.ct<=hi)/\(0<=C.rn/\C.rn<=127)/\((C.p=7/\C.ak=true)\/(C.rn=0/\(¬ C.p=7\/C.ct=0))))/\Bl w w':=by
 obtain⟨X,HX⟩ : ∃ X:Prop,Hid (X↔((0<=C.te/\C.te<=256)/\(0<=C.re/\C.re<=255)/\(C.p=7↔C.te=256)/\(lo<=C.ct/\C.ct<=hi)/\(0<=C.rn/\C.rn<=127)/\((C.p=7/\C.ak=true)\/(C.rn=0/\(¬ C.p=7\/C.ct=0))))):=⟨_,Iff.rfl⟩
 rw[<- HX.o];have H0:Hid (ctS w w.heap.size C s (w.alloc (.cells (coL C s).toArray 43))):=ctS.new w _ s;have HPR:Hid (∀ W,Calls Tp 124 #[] W fun o w'=>o = rT (aG prL.toArray)/\Bl W w'):=iN;have HIR:Hid (∀ W v l m,Calls Tp 118 #[I J v,I J l,I J m] W fun o w'=>o = rT (bO (decide (l<=v/\v<=m)))/\W=w'):=dh;have HIX:Hid (∀ W,(Instr.index 149 (aG prL.toArray) (I J C.p)).run Tp W = .ok (aG #[I J lo,I J hi,.func (.func n) #[] #[]]) W):=hix;clear hix;go_enter Tryz.func120,Tryz.ntmps120;go_upto_region 1 with fail
 go_cut [3] (fun s3 wx=>∃ b,s3 = pT (some ⟨b,0,none⟩)/\Hid (blk wx b [I J lo,I J hi,.func (.func n) #[] #[]] 147)/\Hid (ctS w w.heap.size C s wx));case first=>
  refine QK (S:=fun X=>ctS w w.heap.size C s X) kr ?_;have hS:ctS w w.heap.size C s (World.drew (w.alloc (.cells (coL C s).toArray 43))):=H0.o.below (bW _ _).drew;clear H0;change wpAnyH Tp _ _ _ _ _ _ _ (World.drew (w.alloc (.cells (coL C s).toArray 43)));generalize World.drew (w.alloc (.cells (coL C s).toArray 43))=v0 at *;refine tk 1 ?_;refine tk 2 ?_ (hy:=fun W hSw=>by (have y:=hSw.p.cell 0 (I J C.p) rfl;go_simp;try rfl));refine QG (rs:=[0,4]) kr pQ ?_;refine Q9 rfl (fun K2 hK2=>?_) (Q9 rfl (fun K2 hK2=>?_) za)
  .go_simp;refine (HPR.o _).mono ?_;rintro o v1 ⟨rfl,hb⟩;have hS1:=hS.below hb;clear hb;go_wp2_with fail;refine hK2.out _ _ hS1 (fun hS2=>?_);clear hK2 K2 hS1 hS;have hS:=hS2;clear hS2;refine wV 3 (aG #[I J lo,I J hi,.func (.func n) #[] #[]]) ?_ hS ?_
   .intro W hSw;clear hS;go_simp;simp only[HIX.o,Result.andThen_ok]
   simp only[aZ];refine al 4 fun K2 hK2=>?_;go_simp;have hS1:ctS w w.heap.size C s (v1.alloc (.cells #[I J 0,I J 0,.nilFunc] 147)):=hS.below qw;have HRZ:Hid (blk (v1.alloc (.cells #[I J 0,I J 0,.nilFunc] 147)) v1.heap.size [I J 0,I J 0,.nilFunc] 147):=blk.new v1 _ 147;have HBL:Hid (w.heap.size<v1.heap.size):=hS.p.lt;refine hK2.out _ _ hS1 (fun hS2=>?_);clear hK2 K2 hS1 hS;have hS:=hS2;clear hS2;refine al 5 fun K2 hK2=>?_;rw[zc (by rfl)];refine QU 147 (.tmp 3) (.tmp 8) rfl v1.heap.size 0 #[I J lo,I J hi,.func (.func n) #[] #[]] rfl rfl (HRZ.o.there 0 _ pQ) Cy (QL (by simp[Value.oneCell'])) ?_;generalize hW8:World.setCells (v1.alloc (.cells #[I J 0,I J 0,.nilFunc] 147)) v1.heap.size 0 _=w8;have HR:Hid (blk w8 v1.heap.size [I J lo,I J hi,.func (.func n) #[] #[]] 147):=by
    have:=blk.put [] [I J 0,I J 0,.nilFunc] [] [I J lo,I J hi,.func (.func n) #[] #[]] (w:=(v1.alloc (.cells #[I J 0,I J 0,.nilFunc] 147))) (b:=v1.heap.size) (T:=147) (by simpa using HRZ.o) rfl;show blk _ _ _ _;rw[<- hW8];simpa using this
   have hS8:ctS w w.heap.size C s w8:=by
    rw[<- hW8];exact⟨hS.p.kept (sO _ _ (Nat.ne_of_lt HBL.o) _ _ _),sW (qB HBL.o) 0 _ hS.b⟩
   have H1:Hid (ctS w w.heap.size C s w8):=hS8;clear hW8;refine hK2.out _ _ hS8 (fun hS3=>?_);refine QI kr ?_ _;clear hS hK2 K2 hS8 hS3;go_wp2_with fail;go_meet;case rel=>exact⟨_,rfl,HR,H1⟩
  .go_simp;have hS1:ctS w w.heap.size C s (v0.alloc (.cells #[I J 0,I J 0,.nilFunc] 147)):=hS.below qw;have HRY:Hid (blk (v0.alloc (.cells #[I J 0,I J 0,.nilFunc] 147)) v0.heap.size [I J 0,I J 0,.nilFunc] 147):=blk.new v0 _ 147;have HBL:Hid (w.heap.size<v0.heap.size):=hS.p.lt;refine hK2.out _ _ hS1 (fun hS2=>?_);clear hK2 K2 hS1 hS;have hS:=hS2;clear hS2;refine al 0 fun K2 hK2=>?_;go_simp;refine (HPR.o _).mono ?_;rintro o v1 ⟨rfl,hb⟩;have hS1:=hS.below hb;have HRZ:Hid (blk v1 v0.heap.size [I J 0,I J 0,.nilFunc] 147):=HRY.o.below hb;clear hb HRY;go_wp2_with fail;refine hK2.out _ _ hS1 (fun hS2=>?_);clear hK2 K2 hS1 hS;have hS:=hS2;clear hS2;refine wV 3 (aG #[I J lo,I J hi,.func (.func n) #[] #[]]) ?_ hS ?_
   .intro W hSw;clear hS;go_simp;simp only[HIX.o,Result.andThen_ok]
   simp only[aZ];refine al 5 fun K2 hK2=>?_;rw[zc (by rfl)];refine QU 147 (.tmp 3) (.tmp 8) rfl v0.heap.size 0 #[I J lo,I J hi,.func (.func n) #[] #[]] rfl rfl (HRZ.o.there 0 _ pQ) Cy (QL (by simp[Value.oneCell'])) ?_;generalize hW8:World.setCells v1 v0.heap.size 0 _=w8;have HR:Hid (blk w8 v0.heap.size [I J lo,I J hi,.func (.func n) #[] #[]] 147):=by
    have:=blk.put [] [I J 0,I J 0,.nilFunc] [] [I J lo,I J hi,.func (.func n) #[] #[]] (w:=v1) (b:=v0.heap.size) (T:=147) (by simpa using HRZ.o) rfl;show blk _ _ _ _;rw[<- hW8];simpa using this
   have hS8:ctS w w.heap.size C s w8:=by
    rw[<- hW8];exact⟨hS.p.kept (sO _ _ (Nat.ne_of_lt HBL.o) _ _ _),sW (qB HBL.o) 0 _ hS.b⟩
   have H1:Hid (ctS w w.heap.size C s w8):=hS8;clear hW8;refine hK2.out _ _ hS8 (fun hS3=>?_);refine QI kr ?_ _;clear hS hK2 K2 hS8 hS3;go_wp2_with fail;go_meet;case rel=>exact⟨_,rfl,HR,H1⟩
 case rest=>
 obtain⟨b,rfl,HR,H1⟩:=hcut;have y0:=H1.o.p.cell 0 (I J C.p) rfl;have y1:=H1.o.p.cell 1 (I J C.ct) rfl;have y7:=H1.o.p.cell 7 (bO C.ak) rfl;have y8:=H1.o.p.cell 8 (I J C.rn) rfl;have y9:=H1.o.p.cell 9 (I J C.te) rfl;have y10:=H1.o.p.cell 10 (I J C.re) rfl;have z0:=HR.o.cell 0 (I J lo) rfl;have z1:=HR.o.cell 1 (I J hi) rfl;have bb:∀ (x y:Int),∃ b:Bool,(x == y)=b/\Hid (b=true↔x=y):=fun x y=>⟨_,rfl,by show _↔_;simp⟩
 have bd:∀ (l x m:Int),∃ b:Bool,decide (l<=x/\x<=m)=b/\Hid (b=true↔l<=x/\x<=m):=fun l x m=>⟨_,rfl,by show _↔_;simp⟩
 obtain⟨b7,e7,f7⟩:=bb C.p 7;obtain⟨b2,e2,f2⟩:=bb C.te 256;obtain⟨bn,en,fn⟩:=bb C.rn 0;obtain⟨bc,ec,fc⟩:=bb C.ct 0;obtain⟨bt,et,ft⟩:=bd 0 C.te 256;obtain⟨br,er,fr⟩:=bd 0 C.re 255;obtain⟨bq,eq,fq⟩:=bd lo C.ct hi;obtain⟨bm,em,fm⟩:=bd 0 C.rn 127;obtain⟨ak,ea⟩ : ∃ b,C.ak=b:=⟨_,rfl⟩
 rw[ea] at y7 HX;have n7:(C.p != 7) = !b7:=by rw[<- e7];rfl
 rw[<- ft.o,<- fr.o,<- f7.o,<- f2.o,<- fq.o,<- fm.o,<- fn.o,<- fc.o] at HX;clear bb bd HIX HPR H0 ft fr f7 f2 fq fm fn fc ea;go_upto_region 2 with fail
 go_cut [27] (fun s27 wx=>s27 = bO (!bt || !br || (b7 != b2))/\wx=wc);case first=>
  clear HX;cases bt <;> cases br <;> cases b7 <;> cases b2 <;> (
   go_wp2_with (go_at_call 118;refine (HIR.o _ _ _ _).mono ?_;rintro o w2 ⟨rfl,rfl⟩;first | rw[et] | rw[er])
   go_meet
   case rel=>exact⟨rfl,rfl⟩)
 case rest=>
 obtain⟨rfl,hw⟩:=hcut;subst hw;obtain⟨c1,g1⟩ : ∃ b,(!bt || !br || (b7 != b2))=b:=⟨_,rfl⟩
 rw[g1];have G1:Hid ((!bt || !br || (b7 != b2))=c1):=g1;clear g1 et er e2 y9 y10;cases c1;case true=>
  go_wp2_with fail;go_ret;refine⟨⟨_,rfl,?_⟩,H1.o.b⟩;rw[HX.o];have g:=G1.o;clear HX HIR H1 HR y0 y1 y7 y8 z0 z1 e7 en ec eq em n7 G1;cases bt <;> cases br <;> cases b7 <;> cases b2 <;> simp_all
 case false=>
 go_upto_region 4 with fail
 go_cut [41] (fun s41 wx=>s41 = bO (!bq || !bm)/\wx=wc);case first=>
  clear HX G1;cases bq <;> cases bm <;> (
   go_wp2_with (go_at_call 118;refine (HIR.o _ _ _ _).mono ?_;rintro o w2 ⟨rfl,rfl⟩;first | rw[eq] | rw[em])
   go_meet
   case rel=>exact⟨rfl,rfl⟩)
 case rest=>
 obtain⟨rfl,hw⟩:=hcut;subst hw;obtain⟨c2,g2⟩ : ∃ b,(!bq || !bm)=b:=⟨_,rfl⟩
 rw[g2];have G2:Hid ((!bq || !bm)=c2):=g2;clear g2 eq em z0 z1 HR HIR;cases c2;case true=>
  go_wp2_with fail;go_ret;refine⟨⟨_,rfl,?_⟩,H1.o.b⟩;rw[HX.o];have g:=G2.o;clear HX H1 y0 y1 y7 y8 e7 en ec n7 G1 G2;cases bq <;> cases bm <;> simp_all
 case false=>
 go_upto_region 6 with fail
 go_cut [4] (fun s4 wx=>s4 = bO (b7 && ak)/\wx=wc);case first=>
  clear HX G1 G2;cases b7 <;> cases ak <;> (
   go_wp2_with fail;go_meet
   case rel=>exact⟨rfl,rfl⟩)
 case rest=>
 obtain⟨rfl,hw⟩:=hcut;subst hw;obtain⟨c3,g3⟩ : ∃ b,(b7 && ak)=b:=⟨_,rfl⟩
 rw[g3];have G3:Hid ((b7 && ak)=c3):=g3;clear g3 y7;go_upto_region 7 with fail
 go_cut [2] (fun s2 wx=>s2 = bO (c3 || (bn && (!b7 || bc)))/\wx=wc);case first=>
  clear HX G1 G2 G3;cases c3 <;> cases bn <;> cases b7 <;> cases bc <;> (
   go_wp2_with fail;go_meet
   case rel=>exact⟨rfl,rfl⟩)
 case rest=>
 obtain⟨rfl,hw⟩:=hcut;subst hw;go_wp2_with fail;go_ret;refine⟨⟨_,rfl,?_⟩,H1.o.b⟩;rw[HX.o,<- G3.o];have g:=G1.o;have g':=G2.o;clear HX H1 y0 y1 y8 e7 en ec n7 G1 G2 G3 c3;cases bt <;> cases br <;> cases b7 <;> cases b2 <;> cases bq <;> cases bm <;> simp_all
end Go.Proofs.YtnfmjckkibdcaaaGreatDoor
