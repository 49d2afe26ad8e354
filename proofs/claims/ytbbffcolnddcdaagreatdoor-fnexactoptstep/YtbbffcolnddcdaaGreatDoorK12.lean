import Derived.Test.YtbbffcolnddcdaaGreatDoorK06
import Derived.Test.YtbbffcolnddcdaaGreatDoorK11
import Derived.Test.YtbbffcolnddcdaaGreatDoorProg
import Derived.WalkKit
import Derived.WalkSpells
import Derived.WalkLawsBesides
import Derived.Deep.QuietTactic
import Derived.BigQuiet
import Derived.Below
import Derived.Laws.BitsAllLaws
import Derived.Laws.IdiomStrings
import Derived.Deep.RegionWith
import Derived.Deep.MidRow
import Derived.Maps.AppendAt
import Derived.Deep.RegionHeld3
namespace Go.Proofs.YtbbffcolnddcdaaGreatDoor
open Go.Proofs.Tryz
set_option maxRecDepth 20000
open Go.RowKit
set_option linter.all false
set_option maxHeartbeats 16000000
open Go.Value renaming int->I,slice->sL,bool->bO,pointer->pT,agg->aG
open Go.IntKind renaming i64->J
open Go.Ending renaming returned->rT
open Go.Proofs.Tryz renaming prog->Tp
section
variable{k:Nat}
def gQ(b:R5):Bool:=vB b.e b.i b.r b.d b.l.length
def gB(b:R8):Bool:=decide ((1<=b.x/\b.x<=12)/\(0<=b.y/\b.y<=9999)/\(0<=b.z/\b.z<=9))&&vB b.e b.i b.r b.d b.l.length
def il(w:World)(b:R5)(a:Option Addr)(n cap:Nat)(h:iB w a n cap b.l):ce 173 #[frV b.e b.i b.r b.d a n cap] w fun o w'=>o=rT (bO (!gQ b))/\Bl w w':=by
 have c:=h.len
 have j:Hid (∀W,Bl w W->ce 186 #[frV b.e b.i b.r b.d a n cap] W fun o w'=>o=rT (bO (gQ b))/\Bl W w'):=fun W p=>by
  have:=dU W b.e b.i b.r b.d a n cap b.l (h.below p);rw[c]at this;unfold gQ;rw[c];exact this
 clear h c;generalize gQ b=R at*;obtain⟨e,i,r,d,l⟩:=b;go_enter func173,ntmps173;go_wp2_with fail;refine(j.o _ Zw).mono ?_;rintro o s ⟨rfl,g⟩;have f:=hI (Zw.trans (g.mono pQ));clear g;cases R
 .go_wp2_with fail;go_ret;exact⟨rfl,f.o⟩
 .go_wp2_with fail;go_ret;exact⟨rfl,f.o⟩
def lr(w:World)(b:R8)(a:Option Addr)(n cap:Nat)(h:iB w a n cap b.l):ce 175 #[bxV b.x b.y b.z b.e b.i b.r b.d a n cap] w fun o w'=>o=rT (bO (!gB b))/\Bl w w':=by
 have A:Hid (∀W,Bl w W->ce 173 #[frV b.e b.i b.r b.d a n cap] W fun o w'=>o=rT (bO (!vB b.e b.i b.r b.d b.l.length))/\Bl W w'):=fun W H=>il W ⟨b.e,b.i,b.r,b.d,b.l⟩ a n cap (h.below H);clear h;have p:Hid (gB b=(decide ((1<=b.x/\b.x<=12)/\(0<=b.y/\b.y<=9999)/\(0<=b.z/\b.z<=9))&&vB b.e b.i b.r b.d b.l.length)):=rfl;generalize gB b=Q at*;generalize vB b.e b.i b.r b.d b.l.length=R at*;obtain⟨x,y,z,e,i,r,d,l⟩:=b;simp only[]at A p ⊢;have u:Hid (Bl w (w.alloc (.cells #[I J x,I J y,I J z,bO e,I .u32 (i:Int),bO r,I J d,sL a n cap] 212))):=Zw;have c:decide (1<=x/\x<=12)=true\/decide (1<=x/\x<=12)=false:=by cases decide (1<=x/\x<=12)<;>simp
 have hy:decide (0<=y/\y<=9999)=true\/decide (0<=y/\y<=9999)=false:=by cases decide (0<=y/\y<=9999)<;>simp
 have g:decide (0<=z/\z<=9)=true\/decide (0<=z/\z<=9)=false:=by cases decide (0<=z/\z<=9)<;>simp
 have f:Hid (∀(W:World)(v l m:Int)(C:Bool),decide (l<=v/\v<=m)=C->ce 124 #[I J v,I J l,I J m] W fun o w'=>o=rT (bO C)/\W=w'):=fun W v l m C L=>L ▸ bT W v l m;rcases c with c|c
 .rcases hy with hy|hy
  .rcases g with g|g
   .have HQ:Hid (Q=R):=by
     have:=p.o;simp only[qK]at c hy g;rw[this,qy ⟨c,hy,g⟩];rfl
    have D:=fun W=>f.o W x 1 12 true c;have E:=fun W=>f.o W y 0 9999 true hy;have G:=fun W=>f.o W z 0 9 true g;have j:Hid (∀W,ce 124 #[I J x,I J 1,I J 12] W fun o w'=>o=rT (bO true)/\W=w'):=D;have t:Hid (∀W,ce 124 #[I J y,I J 0,I J 9999] W fun o w'=>o=rT (bO true)/\W=w'):=E;have B:Hid (∀W,ce 124 #[I J z,I J 0,I J 9] W fun o w'=>o=rT (bO true)/\W=w'):=G;clear D E G c hy g f p;go_enter func175,ntmps175
    go_wp2_with(first|(go_at_call 124;first|(refine(j.o _).mono ?_;rintro o s ⟨rfl,rfl⟩;clear j)|(refine(t.o _).mono ?_;rintro o s ⟨rfl,rfl⟩;clear t)|(refine(B.o _).mono ?_;rintro o s ⟨rfl,rfl⟩;clear B))|(go_at_call 173;refine(A.o _ u.o).mono ?_;rintro o s ⟨rfl,K⟩))
    go_ret;exact⟨ai (by rw[HQ.o]),u.o.trans (K.mono u.o.size)⟩
   .have HQ:Hid (Q=false):=by
     have:=p.o;simp only[decide_eq_false_iff_not]at g;rw[this,qm (fun h=>g h.2.2)];rfl
    have j:Hid (∀W,ce 124 #[I J x,I J 1,I J 12] W fun o w'=>o=rT (bO true)/\W=w'):=fun W=>f.o W x 1 12 true c;have t:Hid (∀W,ce 124 #[I J y,I J 0,I J 9999] W fun o w'=>o=rT (bO true)/\W=w'):=fun W=>f.o W y 0 9999 true hy;have B:Hid (∀W,ce 124 #[I J z,I J 0,I J 9] W fun o w'=>o=rT (bO false)/\W=w'):=fun W=>f.o W z 0 9 false g;clear c hy g f p A;go_enter func175,ntmps175
    go_wp2_with(go_at_call 124;first|(refine(j.o _).mono ?_;rintro o s ⟨rfl,rfl⟩;clear j)|(refine(t.o _).mono ?_;rintro o s ⟨rfl,rfl⟩;clear t)|(refine(B.o _).mono ?_;rintro o s ⟨rfl,rfl⟩;clear B))
    go_ret;exact⟨ai (by rw[HQ.o];rfl),u.o⟩
  .have HQ:Hid (Q=false):=by
    have:=p.o;simp only[decide_eq_false_iff_not]at hy;rw[this,qm (fun h=>hy h.2.1)];rfl
   have j:Hid (∀W,ce 124 #[I J x,I J 1,I J 12] W fun o w'=>o=rT (bO true)/\W=w'):=fun W=>f.o W x 1 12 true c;have t:Hid (∀W,ce 124 #[I J y,I J 0,I J 9999] W fun o w'=>o=rT (bO false)/\W=w'):=fun W=>f.o W y 0 9999 false hy;clear c hy g f p A;go_enter func175,ntmps175
   go_wp2_with(go_at_call 124;first|(refine(j.o _).mono ?_;rintro o s ⟨rfl,rfl⟩;clear j)|(refine(t.o _).mono ?_;rintro o s ⟨rfl,rfl⟩;clear t))
   go_ret;exact⟨ai (by rw[HQ.o];rfl),u.o⟩
 .have HQ:Hid (Q=false):=by
   have:=p.o;simp only[decide_eq_false_iff_not]at c;rw[this,qm (fun h=>c h.1)];rfl
  have j:Hid (∀W,ce 124 #[I J x,I J 1,I J 12] W fun o w'=>o=rT (bO false)/\W=w'):=fun W=>f.o W x 1 12 false c;clear c hy g f p A;go_enter func175,ntmps175
  go_wp2_with(go_at_call 124;refine(j.o _).mono ?_;rintro o s ⟨rfl,rfl⟩)
  go_ret;exact⟨ai (by rw[HQ.o];rfl),u.o⟩
def iQ{c:Type}{p:c->Bool}{a:List c}(f:k<a.length)(h:∀j(b:j<a.length),j<k->p a[j]=true)(h1:p a[k]=true):∀j(b:j<a.length),j<k+1->p a[j]=true:=by
 intro j b d;by_cases e:j=k
 .subst e;exact h1
 .exact h j b om
def jN{c:Type}{p:c->Bool}{a:List c}(e:a.length<=k)(h:∀j(b:j<a.length),j<k->p a[j]=true):a.all p=true:=by
 rw[qW];intro x d;obtain⟨j,b,rfl⟩:=List.getElem_of_mem d;exact h j b om
def lq{b:Type}{p:b->Bool}{a:List b}(c:k<a.length)(h1:p a[k]=false):a.all p=false:=by
 rw[List.all_eq_false];exact⟨a[k],ql c,by rw[h1];simp⟩
def ma(w:World)(a:Option Addr)(n cap:Nat)(bs:List R5)(h:cn w a n cap bs)(hn:n<=1048576):ce 208 #[sL a n cap,.func (.func 173) #[] #[]] w fun o w'=>∃z:Int,o=rT (I J z)/\decide (0<=z)= !bs.all gQ/\Bl w w':=by
 have hlen:=h.len;have hcp:=h.cap;by_cases hl:bs=[]
 .subst hl;have hn0:n=0:=hlen;subst hn0;clear hlen h;go_enter func208,ntmps208;go_wp2;go_loopw [8] (fun i wr=>i=I J 0/\wr=w) (fun _ _=>0);case atStart=>exact⟨rfl,rfl⟩
  case round=>
   obtain⟨rfl,rfl⟩:=hrel;go_wp2;go_ret;exact⟨-1,rfl,rfl,bW _ _⟩
 .obtain⟨g,off,rfl,hc⟩:=h.cells hl;have HL:=hI hlen;have HC:=hI hc;clear h hlen hc;go_enter func208,ntmps208;go_wp2;go_loopw [8] (fun i wr=>∃k:Nat,k<=n/\i=I J (k:Int)/\(∀j(hj:j<bs.length),j<k->gQ bs[j]=true)/\Bl w wr) (fun i _=>n-(intOf i).toNat);case atStart=>exact⟨0,nZ _,rfl,fun j hj h=>Qj h (nN _),bW _ _⟩
  case round=>
   obtain⟨k,hk,rfl,hdone,hb⟩:=hrel;by_cases hlt:k<n
   .have hkl:k<bs.length:=by have:=HL.o;omega
    obtain⟨ao,m,c,hx⟩:=HC.o k hkl;have hx':=hx.below hb;have HRG:=hI hx'.range;have HW:=hI (il wr bs[k] ao m c hx'.dat);have HB:=hI hb;have HD:=hI hdone;clear hx hx' hb hdone;cases hok:gQ bs[k]
    .have HN:=hI (lq hkl hok);rw[hok]at HW
     clear hok;generalize bs[k].e=e0 at*;generalize bs[k].i=i0 at*;generalize bs[k].r=r0 at*;generalize bs[k].d=d0 at*;go_wp2_with(first|(refine ZG 53 HRG.o underlying53 cE ?_)|(go_at_call 173;refine HW.o.mono ?_;rintro o w5 ⟨rfl,hb5⟩))
     go_ret;exact⟨_,rfl,by rw[HN.o];simp,HB.o.trans (hb5.mono HB.o.size)⟩
    .have HN:=hI (iQ hkl HD.o hok);rw[hok]at HW
     clear hok;generalize bs[k].e=e0 at*;generalize bs[k].i=i0 at*;generalize bs[k].r=r0 at*;generalize bs[k].d=d0 at*;go_wp2_with(first|(refine ZG 53 HRG.o underlying53 cE ?_)|(go_at_call 173;refine HW.o.mono ?_;rintro o w5 ⟨rfl,hb5⟩))
     go_roundw;case rel=>exact⟨k+1,om,by go_num,HN.o,HB.o.trans (hb5.mono HB.o.size)⟩
     case measure=>simp[intOf];omega
   .have HN:=hI (jN (by have:=HL.o;omega) hdone);clear hdone;go_wp2;go_ret;exact⟨_,rfl,by rw[HN.o];simp,hb⟩
def jL(w:World)(a:Option Addr)(n cap:Nat)(bs:List R5)(h:cn w a n cap bs)(hn:n<=1048576):ce 172 #[sL a n cap,.func (.func 173) #[] #[]] w fun o w'=>o=rT (bO (!bs.all gQ))/\Bl w w':=by
 have HI:=hI (ma w a n cap bs h hn);clear h;go_enter func172,ntmps172;go_wp2_with(go_at_call 208;refine HI.o.mono ?_;rintro o w5 ⟨z,rfl,hz,hb5⟩;have HZ:Hid (decide (0<=z)= !bs.all gQ):=hz;clear hz);go_ret;exact⟨ai HZ.o,hb5⟩
def me(w:World)(a:Option Addr)(n cap:Nat)(bs:List R8)(h:aP w a n cap bs)(hn:n<=1048576):ce 209 #[sL a n cap,.func (.func 175) #[] #[]] w fun o w'=>∃z:Int,o=rT (I J z)/\decide (0<=z)= !bs.all gB/\Bl w w':=by
 have hlen:=h.len;have hcp:=h.cap;by_cases hl:bs=[]
 .subst hl;have hn0:n=0:=hlen;subst hn0;clear hlen h;go_enter func209,ntmps209;go_wp2;go_loopw [8] (fun i wr=>i=I J 0/\wr=w) (fun _ _=>0);case atStart=>exact⟨rfl,rfl⟩
  case round=>
   obtain⟨rfl,rfl⟩:=hrel;go_wp2;go_ret;exact⟨-1,rfl,rfl,bW _ _⟩
 .obtain⟨g,off,rfl,hc⟩:=h.cells hl;have HL:=hI hlen;have HC:=hI hc;clear h hlen hc;go_enter func209,ntmps209;go_wp2;go_loopw [8] (fun i wr=>∃k:Nat,k<=n/\i=I J (k:Int)/\(∀j(hj:j<bs.length),j<k->gB bs[j]=true)/\Bl w wr) (fun i _=>n-(intOf i).toNat);case atStart=>exact⟨0,nZ _,rfl,fun j hj h=>Qj h (nN _),bW _ _⟩
  case round=>
   obtain⟨k,hk,rfl,hdone,hb⟩:=hrel;by_cases hlt:k<n
   .have hkl:k<bs.length:=by have:=HL.o;omega
    obtain⟨ao,m,c,hx⟩:=HC.o k hkl;have hx':=hx.below hb;have HRG:=hI hx'.range;have HW:=hI (lr wr bs[k] ao m c hx'.dat);have HB:=hI hb;have HD:=hI hdone;clear hx hx' hb hdone;cases hok:gB bs[k]
    .have HN:=hI (lq hkl hok);rw[hok]at HW
     clear hok;generalize bs[k].x=x0 at*;generalize bs[k].y=y0 at*;generalize bs[k].z=z0 at*;generalize bs[k].e=e0 at*;generalize bs[k].i=i0 at*;generalize bs[k].r=r0 at*;generalize bs[k].d=d0 at*;go_wp2_with(first|(refine ZG 212 HRG.o underlying212 i7 ?_)|(go_at_call 175;refine HW.o.mono ?_;rintro o w5 ⟨rfl,hb5⟩))
     go_ret;exact⟨_,rfl,by rw[HN.o];simp,HB.o.trans (hb5.mono HB.o.size)⟩
    .have HN:=hI (iQ hkl HD.o hok);rw[hok]at HW
     clear hok;generalize bs[k].x=x0 at*;generalize bs[k].y=y0 at*;generalize bs[k].z=z0 at*;generalize bs[k].e=e0 at*;generalize bs[k].i=i0 at*;generalize bs[k].r=r0 at*;generalize bs[k].d=d0 at*;go_wp2_with(first|(refine ZG 212 HRG.o underlying212 i7 ?_)|(go_at_call 175;refine HW.o.mono ?_;rintro o w5 ⟨rfl,hb5⟩))
     go_roundw;case rel=>exact⟨k+1,om,by go_num,HN.o,HB.o.trans (hb5.mono HB.o.size)⟩
     case measure=>simp[intOf];omega
   .have HN:=hI (jN (by have:=HL.o;omega) hdone);clear hdone;go_wp2;go_ret;exact⟨_,rfl,by rw[HN.o];simp,hb⟩
def jM(w:World)(a:Option Addr)(n cap:Nat)(bs:List R8)(h:aP w a n cap bs)(hn:n<=1048576):ce 174 #[sL a n cap,.func (.func 175) #[] #[]] w fun o w'=>o=rT (bO (!bs.all gB))/\Bl w w':=by
 have HI:=hI (me w a n cap bs h hn);clear h;go_enter func174,ntmps174;go_wp2_with(go_at_call 209;refine HI.o.mono ?_;rintro o w5 ⟨z,rfl,hz,hb5⟩;have HZ:Hid (decide (0<=z)= !bs.all gB):=hz;clear hz);go_ret;exact⟨ai HZ.o,hb5⟩
end
def bH(o:Ending)(P:Prop):Prop:=∃b:Bool,o=rT (bO b)/\(b=true↔P)
def hoL(H:Ho)(s:Sl):List Value:=[I J H.c0,I J H.c1,I J H.c2,I J H.c3,sL s.a1 s.n1 s.k1,sL s.a2 s.n2 s.k2,sL s.a3 s.n3 s.k3,sL s.a4 s.n4 s.k4,I J H.lo,I J H.st]
def gC(H:Ho)(s:Sl):hoV H s=aG (hoL H s).toArray:=rfl
def fj(H:Ho)(s:Sl):(Tp.info? 50).map (·.size)=some (hoL H s).length:=yJ
def nO(H:Ho)(s:Sl):(Tp.info? 50).map (·.size)=some (hoL H s).toArray.size:=yJ
def gZ(H:Ho)(s:Sl):(hoL H s).toArray.all (·.oneCell')=true:=Qv (by simp[hoL,Value.oneCell'])
def zFr(e:Bool)(i:Nat)(r:Bool)(d:Int)(n:Nat):Prop:=e=false/\i=0/\r=false/\d=0/\n=0
def eE(w:World)(e:Bool)(i:Nat)(r:Bool)(d:Int)(a:Option Addr)(n cap:Nat):ce 101 #[frV e i r d a n cap] w fun o w'=>bH o (zFr e i r d n)/\Bl w w':=by
 have b:Hid (Bl w (w.alloc (.cells #[bO e,I .u32 (i:Int),bO r,I J d,sL a n cap] 53))):=Zw;cases e
 .by_cases hi:i=0
  .subst hi;cases r
   .by_cases hd:d=0
    .subst hd;go_enter func101,ntmps101;go_wp2;go_ret;refine⟨⟨_,rfl,?_⟩,b.o⟩;unfold zFr;simp;try omega
    .have hd':(d==0)=false:=by simpa using hd
     clear hd;go_enter func101,ntmps101;go_wp2;go_ret;refine⟨⟨_,rfl,?_⟩,b.o⟩;unfold zFr;simp at hd';simp[hd']
   .go_enter func101,ntmps101;go_wp2;go_ret;refine⟨⟨_,rfl,?_⟩,b.o⟩;unfold zFr;simp
  .have hi':((i:Int)==0)=false:=by simpa using hi
   clear hi;go_enter func101,ntmps101;go_wp2;go_ret;refine⟨⟨_,rfl,?_⟩,b.o⟩;unfold zFr;simp at hi';simp[hi']
 .go_enter func101,ntmps101;go_wp2;go_ret;refine⟨⟨_,rfl,?_⟩,b.o⟩;unfold zFr;simp
def mW(w:World)(g n cap c:Nat)(f:Nat->Nat)(l:bV w g n f)(G:n<=cap)(K:n<=1048576)(E:c<=10000000000000000):ce 151 #[sL (be g) n cap,I J (c:Int)] w fun o w'=>o=rT (I J ((c+n:Nat):Int))/\bV w' g n (fun t=>(c+t)%256)/\(∀b,b≠g->w'.heap[b]?=w.heap[b]?)/\w'.heap.size=w.heap.size/\Below g w w':=by
 have s:Hid (bV w g n f):=l;clear l;go_enter func151,ntmps151;go_wp2;go_loopw [1,5] (fun v i wr=>∃k:Nat,k<=n/\i=I J (k:Int)/\v=I J ((c+k:Nat):Int)/\bV wr g n (fun t=>if t<k then(c+t)%256 else f t)/\(∀b,b≠g->wr.heap[b]?=w.heap[b]?)/\wr.heap.size=w.heap.size/\Below g w wr) (fun _ i _=>n-(intOf i).toNat);case atStart=>exact⟨0,nZ _,rfl,by go_num,s.o.of (fun t _=>by simp),fun _ _=>rfl,rfl,bW _ _⟩
 case round=>
  obtain⟨k,H,rfl,rfl,a,h,j,d⟩:=hrel;by_cases e:k<n
  .have z0:=a.cell k e;have B:=a.free k e;have r:Hid (bV wr g n (fun t=>if t<k then(c+t)%256 else f t)/\(∀b,b≠g->wr.heap[b]?=w.heap[b]?)/\wr.heap.size=w.heap.size/\Below g w wr):=⟨a,h,j,d⟩
   clear a h j d;generalize hC:c+k=C at*;have p:Hid (c+k=C):=hC;have D:C<=40000000000000000:=om;clear hC;go_wp2;obtain⟨x,y,A,r5⟩:=r.o;have hC:=p.o;refine⟨⟨k+1,om,by go_num,by rw[<- hC];go_num,?_,fun b d=>(Ql _ _ _ _ (by exact d)).trans (y b d),by simpa using A,r5.setCell (by exact nR _) _⟩,by simp[intOf];omega⟩;refine x.set' k e _ ?_ ?_
   .rw[QW (Nat.lt_succ_self k)];go_num
   .intro t _ hne';by_cases h1:t<k
    .rw[QW h1,QW om]
    .rw[QV h1,QV om]
  .have hkn:k=n:=om;subst hkn;have a:=a.of (f':=fun t=>(c+t)%256) (fun t u=>by rw[QW u]);go_wp2;go_ret;exact⟨rfl,a,h,j,d⟩
def ni(w:World)(g n cap c:Nat)(a:bV w g n (fun t=>(c+t)%256))(l:n<=cap)(r:n<=1048576)(j:c<=10000000000000000):ce 156 #[sL (be g) n cap,I J (c:Int)] w fun o w'=>o=rT (I J ((c+n:Nat):Int))/\w'=w:=by
 have d:Hid (bV w g n (fun t=>(c+t)%256)):=a;clear a;go_enter func156,ntmps156;go_wp2;go_loopw [1,5] (fun f i wr=>∃k:Nat,k<=n/\i=I J (k:Int)/\f=I J ((c+k:Nat):Int)/\wr=w) (fun _ i _=>n-(intOf i).toNat);case atStart=>exact⟨0,nZ _,rfl,by go_num,rfl⟩
 case round=>
  obtain⟨k,p,rfl,rfl,rfl⟩:=hrel;by_cases e:k<n
  .have x0:=d.o.cell k e;generalize hC:c+k=C at*;have b:Hid (c+k=C):=hC;have h:C<=40000000000000000:=om;clear hC;go_wp2;refine⟨⟨k+1,om,by go_num,by rw[<- b.o];go_num,trivial⟩,by simp[intOf];omega⟩
  .have hkn:k=n:=om;subst hkn;go_wp2;go_ret;exact⟨rfl,rfl⟩
structure Sc where
 f:Int
 lf:Int
 rn:Int
 lv:Int
 cr:Int
 ac:Int
 e:Bool
 i:Nat
 r:Bool
 d:Int
 l:List Nat
abbrev scV(S:Sc)(a:Option Addr)(n cap:Nat):Value:=aG #[I J S.f,I J S.lf,I J S.rn,I J S.lv,I J S.cr,I J S.ac,bO S.e,I .u32 (S.i:Int),bO S.r,I J S.d,sL a n cap]
def scL(S:Sc)(a:Option Addr)(n cap:Nat):List Value:=[I J S.f,I J S.lf,I J S.rn,I J S.lv,I J S.cr,I J S.ac,bO S.e,I .u32 (S.i:Int),bO S.r,I J S.d,sL a n cap]
def dh:(Tp.info? 55).map (·.size)=some 11:=kr
def lO(f lf rn lv cr ac:Int)(e:Bool)(i:Int)(r:Bool)(d:Int)(a:Option Addr)(n c:Nat):(#[I J f,I J lf,I J rn,I J lv,I J cr,I J ac,bO e,I .u32 i,bO r,I J d,sL a n c]:Array Value).all (·.oneCell')=true:=
 Qv (by simp[Value.oneCell'])
abbrev z11:List Value:=[I J 0,I J 0,I J 0,I J 0,I J 0,I J 0,bO false,I .u32 0,bO false,I J 0,sL none 0 0]
def sU(w:World)(S:Sc)(a:Option Addr)(n cap:Nat)(h:iB w a n cap S.l)(b:Option Addr)(g c:Nat)(k:iB w b g c S.l)(x:n<=1048576):ce 32 #[scV S a n cap,scV S b g c] w fun o w'=>o=rT (bO true)/\Bl w w':=by
 have s:Hid (iB w a n cap S.l):=h;have t:Hid (iB w b g c S.l):=k;clear h k;obtain⟨f,lf,rn,lv,cr,ac,e,i,r,d,l⟩:=S;have h1:(f !=f)=false:=pQ;have y:(lf !=lf)=false:=pQ;have A:(rn !=rn)=false:=pQ;have B:(lv !=lv)=false:=pQ;have C:(cr !=cr)=false:=pQ;have D:(ac !=ac)=false:=pQ;have p:Hid (∀W,Bl w W->ce 86 #[frV e i r d a n cap,frV e i r d b g c] W fun o w'=>o=rT (bO true)/\Bl w w'):=by
  intro W j;refine(hJ W e i r d a n cap l (s.o.below j) b g c (t.o.below j) x).mono ?_;rintro o w' ⟨rfl,u⟩;exact⟨rfl,j.trans (u.mono j.size)⟩
 go_enter func32,ntmps32;go_wp2_with(go_at_call 86;refine(p.o _ (Zw.alloc pQ _)).mono ?_;rintro o E ⟨rfl,v⟩);go_ret;exact⟨rfl,v⟩
open Go renaming World->Wd
set_option maxHeartbeats 1000000
def Fk{b f:FuncId}(hF:(b=89/\f=151)\/(b=92/\f=156)){m c:Int}(l:0<=m)(P:Wd->Prop)(w:Wd)(e:Bool)(i:Nat)(r:Bool)(d:Int)(a:Option Addr)(n k:Nat)(h:∀X,Bl w X->ce f #[sL a n k,I J c] X fun o w'=>o=rT (I J m)/\P w'):ce b #[frV e i r d a n k,I J c] w fun o w'=>o=rT (I J m)/\P w':=by
 have g:Hid _:=h (w.alloc (.cells #[bO e,I .u32 (i:Int),bO r,I J d,sL a n k] 53)) Zw;have p:¬m<0:=om;clear h l;rcases hF with⟨rfl,rfl⟩|⟨rfl,rfl⟩
 all_goals
  first|go_enter func89,ntmps89|go_enter func92,ntmps92
  go_wp2_with fail;refine(Calls.mono g.o) ?_;rintro o s ⟨rfl,q⟩;have j:Hid _:=q;clear q g;go_wp2_with fail;go_ret;exact⟨rfl,j.o⟩
def pe{g b:FuncId}(hF:(g=35/\b=151)\/(g=38/\b=156)){m c:Int}(p:0<=m)(P:Wd->Prop)(w:Wd)(S:Sc)(a:Option Addr)(n k:Nat)(h:∀X,Bl w X->ce b #[sL a n k,I J c] X fun o w'=>o=rT (I J m)/\P w'):ce g #[scV S a n k,I J c] w fun o w'=>o=rT (I J m)/\P w':=by
 obtain⟨y,A,C,B,x,v,e,i,r,d,l⟩:=S;have j:Hid (∀f,((f=89/\b=151)\/(f=92/\b=156))->ce f #[frV e i r d a n k,I J c] (w.alloc (.cells #[I J y,I J A,I J C,I J B,I J x,I J v,bO e,I .u32 (i:Int),bO r,I J d,sL a n k] 55)) fun o w'=>o=rT (I J m)/\P w'):=fun f t=>Fk t p P _ e i r d a n k fun X u=>h X (Zw.trans (u.mono pQ));have D:¬m<0:=om;clear h p;rcases hF with⟨rfl,rfl⟩|⟨rfl,rfl⟩
 all_goals
  first|go_enter func35,ntmps35|go_enter func38,ntmps38
  go_wp2_with fail;refine(Calls.mono (j.o _ (by decide))) ?_;rintro o E ⟨rfl,q⟩;have s:Hid _:=q;clear q j;go_wp2_with fail;go_ret;exact⟨rfl,s.o⟩
structure mkd(w w':Wd)(g n c:Nat):Prop where
 row:bV w' g n (fun t=>(c+t)%256)
 oth:∀b,b≠g->b<w.heap.size->w'.heap[b]?=w.heap[b]?
 bel:Below g w w'
def jB(w:Wd)(S:Sc)(g n cap c:Nat)(f:Nat->Nat)(hr:bV w g n f)(hg:g<w.heap.size)(hcp:n<=cap)(hn:n<=1048576)(hc:c<=10000000000000000):ce 35 #[scV S (be g) n cap,I J (c:Int)] w fun o w'=>o=rT (I J ((c+n:Nat):Int))/\mkd w w' g n c:=
 pe (.inl ⟨rfl,rfl⟩) om (fun w'=>mkd w w' g n c) w S _ n cap fun X hX=>(mW X g n cap c f (hr.below hX hg) hcp hn hc).mono fun o w' ⟨q,h1,h2,_,h4⟩=>⟨q,h1,fun b hb hl=>(h2 b hb).trans (hX.block b hl),(hX.mono (Q5 hg)).trans h4⟩
def pP(w:Wd)(S:Sc)(g n cap c:Nat)(hr:bV w g n (fun t=>(c+t)%256))(hg:g<w.heap.size)(hcp:n<=cap)(hn:n<=1048576)(hc:c<=10000000000000000):ce 38 #[scV S (be g) n cap,I J (c:Int)] w fun o w'=>o=rT (I J ((c+n:Nat):Int))/\Bl w w':=
 pe (.inr ⟨rfl,rfl⟩) om (fun w'=>Bl w w') w S _ n cap fun X hX=>(ni X g n cap c (hr.below hX hg) hcp hn hc).mono fun o w' ⟨q,h1⟩=>⟨q,h1 ▸ hX⟩
def DM{F:FuncId}(hF:F=151\/F=156)(w:Wd)(a:Option Addr)(k:Nat)(c:Int):ce F #[sL a 0 k,I J c] w fun o w'=>o=rT (I J c)/\w'=w:=by
 rcases hF with rfl|rfl;all_goals
  first|go_enter func151,ntmps151|go_enter func156,ntmps156
  go_wp2;go_loopw [1,5] (fun b i wr=>i=I J 0/\b=I J c/\wr=w) (fun _ _ _=>0);case atStart=>exact⟨rfl,rfl,rfl⟩
  case round=>
   obtain⟨rfl,rfl,rfl⟩:=hrel;go_wp2;go_ret;exact⟨rfl,rfl⟩
open Option renaming none->nn,some->sQ
def f5(b:R5)(ao:Option Addr)(m c:Nat):List Value:=[bO b.e,I .u32 (b.i:Int),bO b.r,I J b.d,sL ao m c]
def f8(b:R8)(ao:Option Addr)(m c:Nat):List Value:=[I J b.x,I J b.y,I J b.z,bO b.e,I .u32 (b.i:Int),bO b.r,I J b.d,sL ao m c]
def iS{R:Type}(f:R->Option Addr->Nat->Nat->List Value)(dt:R->List Nat)(q:Nat)(w0 W:Wd)(g room first:Nat)(L:List R):Prop:=∀i(h:i<L.length),∃ao m c,W.rangeAt g ((first+i)%room*q) (f L[i] ao m c)/\iB w0 ao m c (dt L[i])
abbrev dq(w0 W:Wd)(g room first:Nat)(L:List R5):Prop:=iS f5 R5.l 5 w0 W g room first L
abbrev eI(w0 W:Wd)(g room first:Nat)(L:List R8):Prop:=iS f8 R8.l 8 w0 W g room first L
def DH(W:Wd)(P u:Nat)(a:Option Addr)(n cap:Nat)(count:Nat)(e:W.cell? ⟨P,u,nn⟩=sQ (sL a n cap))(g:W.cell? ⟨P,u+2,nn⟩=sQ (I J (count:Int)))(c:count<=n)(d:n<=1048576)(fr:FuncId)(b:fr=264\/fr=265):ce fr #[pT (sQ ⟨P,u,nn⟩)] W fun o w'=>o=rT (I J ((n-count:Nat):Int))/\Bl W w':=by
 rcases b with rfl|rfl;all_goals
  first|go_enter func264,ntmps264|go_enter func265,ntmps265
  go_wp2;go_region;all_goals
   go_wp2;go_ret;refine⟨aL ?_,(bW _ _).drew⟩;omega
def sM{P:Prop}(h:P):Hid P:=h
def Ie{w:Wd}{Z l:List Value}{T:TypeId}(a:Z.length=l.length):blk ((w.alloc (.cells Z.toArray T)).setCells w.heap.size 0 l) w.heap.size l T/\Bl w ((w.alloc (.cells Z.toArray T)).setCells w.heap.size 0 l):=by
 refine⟨?_,sW (nR _) 0 l Zw⟩;have:=blk.put [] Z [] l (w:=w.alloc (.cells Z.toArray T)) (b:=w.heap.size) (T:=T) (by simpa using blk.new w Z T) a;simpa using this
section
variable{R:Type}{f:R->Option Addr->Nat->Nat->List Value}{dt:R->List Nat}{q:Nat}
def iS.keep{w0 W W':Wd}{g room first:Nat}{L:List R}(h:iS f dt q w0 W g room first L)(d:W'.heap[g]?=W.heap[g]?):iS f dt q w0 W' g room first L:=by
 intro i hi;obtain⟨a,m,c,h1,b⟩:=h i hi;exact⟨a,m,c,fun j v e=>(eV d _).trans (h1 j v e),b⟩
def iS.store{w0 W:Wd}{g room first:Nat}{L:List R}(h:iS f dt q w0 W g room first L)(p:∀b a m c,(f b a m c).length=q)(D:first<room)(H:L.length<room)(E:bU W g (room*q))(b:R)(a:Option Addr)(m c:Nat)(B:iB w0 a m c (dt b)):iS f dt q w0 (W.setCells g ((first+L.length)%room*q) (f b a m c)) g room first (L++[b]):=by
 have r:∀x y:Nat,x<y->x*q+q<=y*q:=fun x y e=>by rw[<- Nat.succ_mul];exact qx _ e
 have N:=r _ _ (Qc (first+L.length) (zb (nZ _) D));intro i hi;rw[QX,Q1]at hi;by_cases e:i=L.length
 .subst e;have n:(L++[b])[L.length]'pQ=b:=by simp
  rw[n];refine⟨a,m,c,?_,B⟩;intro j v d;have k:=(List.getElem?_eq_some_iff.1 d).1;have K:j<q:=by rw[p]at k;exact k
  rw[aT,az g _ W _ j k (E.cell _ om),<- (List.getElem?_eq_some_iff.1 d).2]
 .have hi':i<L.length:=om;have n:(L++[b])[i]'(by simp;omega)=L[i]:=qI hi';rw[n];obtain⟨s,G,t,h1,w⟩:=h i hi';refine⟨s,G,t,?_,w⟩;intro j v d;have k:j<q:=by have:=(List.getElem?_eq_some_iff.1 d).1;rw[p]at this;exact this
  have hne:(first+i)%room≠(first+L.length)%room:=by
   intro u;have A:=Nat.sub_mod_eq_zero_of_mod_eq u.symm;rw[show first+L.length-(first+i)=L.length-i by omega,zi om]at A;omega
  rw[aT,rO g _ W _ _ ?_]
  .exact h1 j v d
  .rw[p];rcases Nat.lt_or_gt_of_ne hne with h|h
   .left;have:=r _ _ h;omega
   .right;have:=r _ _ h;omega
structure itF(f:R->Option Addr->Nat->Nat->List Value)(dt:R->List Nat)(q:Nat)(w0 W:Wd)(P gs:Nat)(a:Option Addr)(n c:Nat)(its:List R):Prop where
 len:n=its.length
 cap:n<=c
 cells:its≠[]->∃g off,a=sQ ⟨g,off,nn⟩/\g≠P/\g≠gs/\g<W.heap.size/\∀j(h:j<its.length),∃ao m c',W.rangeAt g (off+j*q) (f its[j] ao m c')/\iB w0 ao m c' (dt its[j])
structure rgF(u gs room first:Nat)(l:Nat->List Value):Prop where
 a:∀C,(l C)[u]?=sQ (sL (be gs) room room)
 b:∀C,(l C)[u+1]?=sQ (I J (first:Int))
 c:∀C:Nat,(l C)[u+2]?=sQ (I J (C:Int))
 s:∀C C':Nat,(l C).set (u+2) (I J (C':Int))=l C'
structure ptF(f:R->Option Addr->Nat->Nat->List Value)(dt:R->List Nat)(q:Nat)(T:TypeId)(l:Nat->List Value)(w0 W wr:Wd)(P gs room first:Nat)(M:List R)(C:Nat):Prop where
 p:blk wr P (l C) T
 z:bU wr gs (room*q)
 r:iS f dt q w0 wr gs room first M
 k:∀b,b≠P->b≠gs->b<W.heap.size->wr.heap[b]?=W.heap[b]?
 s:W.heap.size<=wr.heap.size
 o:wr.os=W.os/\wr.tape=W.tape/\wr.output=W.output
variable{T:TypeId}{l:Nat->List Value}{w0 W wr wr':Wd}{P gs room first:Nat}{M:List R}{C:Nat}
def ptF.below(h:ptF f dt q T l w0 W wr P gs room first M C)(hg:gs<W.heap.size)(hb:Bl wr wr'):ptF f dt q T l w0 W wr' P gs room first M C:=
 ⟨h.p.below hb,h.z.below hb (nL hg h.s),h.r.keep (hb.block _ (nL hg h.s)),fun b h1 h2 h3=>(hb.block _ (nL h3 h.s)).trans (h.k b h1 h2 h3),nT h.s hb.size,⟨hb.os.trans h.o.1,hb.tape.trans h.o.2.1,hb.output.trans h.o.2.2⟩⟩
def ptF.store(h:ptF f dt q T l w0 W wr P gs room first M C)(i:∀b a m c,(f b a m c).length=q)(v:gs≠P)(u:first<room)(n:M.length<room)(b:R)(a:Option Addr)(m c:Nat)(t:iB w0 a m c (dt b)):ptF f dt q T l w0 W (wr.setCells gs ((first+M.length)%room*q) (f b a m c)) P gs room first (M++[b]) C:=by
 have w:(first+M.length)%room*q+(f b a m c).length<=room*q:=by
  rw[i,<- Nat.succ_mul];exact qx _ (Qc _ om)
 refine⟨h.p.other (fun e=>v e.symm) _ _,by rw[aT];exact h.z.put _ _ w,h.r.store i u n h.z b a m c t,fun x h1 g j=>(sO gs x g _ _ _).trans (h.k x h1 g j),by rw[sZ];exact h.s,?_⟩;have d:=sW (B:=0) (nZ gs) ((first+M.length)%room*q) (f b a m c) (bW 0 wr);exact⟨d.os.trans h.o.1,d.tape.trans h.o.2.1,d.output.trans h.o.2.2⟩
def ptF.count(h:ptF f dt q T l w0 W wr P gs room first M C){u:Nat}(n:rgF u gs room first l)(d:gs≠P)(a:Nat):ptF f dt q T l w0 W (wr.setCell ⟨P,u+2,nn⟩ (I J (a:Int))) P gs room first M a:=by
 have e:∀b,b≠P->(wr.setCell ⟨P,u+2,nn⟩ (I J (a:Int))).heap[b]?=wr.heap[b]?:=fun b j=>Ql _ _ _ _ (by exact j);have c:Below 0 wr (wr.setCell ⟨P,u+2,nn⟩ (I J (a:Int))):=(bW 0 wr).setCell (nZ _) _;exact⟨by rw[<- n.s C a];exact h.p.set (u+2) _,h.z.up (e gs d),h.r.keep (e gs d),fun x h1 g i=>(e x h1).trans (h.k x h1 g i),nT h.s c.size,⟨c.os.trans h.o.1,c.tape.trans h.o.2.1,c.output.trans h.o.2.2⟩⟩
end
def Et{R:Type}(f:R->Option Addr->Nat->Nat->List Value)(dt:R->List Nat)(q:Nat)(ty:TypeId)(fn fr:FuncId)(D:fn=241/\fr=264/\ty=53/\q=5\/fn=242/\fr=265/\ty=212/\q=8)(hq:∀b d m c,(f b d m c).length=q)(ho:∀b d m c,(f b d m c).toArray.all (·.oneCell')=true)
  (T:TypeId) (l:Nat->List Value) (u:Nat) (w0 W:Wd) (P gs room first:Nat) (L e:List R) (a:Option Addr) (n c:Nat) (hu:rgF u gs room first l)
  (Z:blk W P (l L.length) T) (hg:gs≠P) (b3:bU W gs (room*q)) (ap:gs<W.heap.size) (b1:iS f dt q w0 W gs room first L)
  (hf:first<room) (hL:L.length<=room) (b2:room<=1000) (a5:itF f dt q w0 W P gs a n c e) (hn:n<=1048576) (t:Nat) (ht:t=min (room-L.length) n) :
  ce fn #[pT (sQ ⟨P,u,nn⟩),sL a n c] W fun o w'=>o=rT (I J (t:Int))/\ptF f dt q T l w0 W w' P gs room first (L++e.take t) (L.length+t):=by
 have HF:=hI (DH W P u _ room room L.length (Z.cell u _ (hu.a _)) (Z.cell (u+2) _ (hu.c _)) hL om fr (by rcases D with h|h;exact qp h.2.1;exact qt h.2.1));have ac:Hid (ptF f dt q T l w0 W W P gs room first L L.length):=⟨Z,b3,b1,fun _ _ _ _=>rfl,nR _,⟨rfl,rfl,rfl⟩⟩
 have br:=a5.cap;have a6:min ((room-L.length:Nat):Int) (n:Int)=(t:Int):=om;have aw:max (t:Int) 0=(t:Int):=om;have bD:t<=n:=om;have af:Hid (L.length+t<=room):=by show _<=_;omega
 have U:=hI a5;have G:Hid (room<=1000/\first<room):=⟨b2,hf⟩
 have y:Hid (gs≠P/\gs<W.heap.size):=⟨hg,ap⟩
 have w:=hI hu;have HQ:Hid ((∀b d m c,(f b d m c).length=q)/\∀b d m c,(f b d m c).toArray.all (·.oneCell')=true):=⟨hq,ho⟩
 clear Z b3 ap b1 a5 ht b2 hL hg hu hq ho;generalize bk:((room-L.length:Nat):Int)=bc at*;clear bk;by_cases a7:e=[]
 .have hn0:n=0:=by have:=U.o.len;rw[a7]at this;simpa using this
  have bn:t=0:=om;subst bn;subst hn0;subst a7;clear U;have bu:min bc 0=0:=by simpa using a6
  clear a6 aw;rcases D with⟨rfl,rfl,rfl,rfl⟩|⟨rfl,rfl,rfl,rfl⟩<;>cases a
  all_goals
   first|go_enter func241,ntmps241|go_enter func242,ntmps242
   go_wp2_with fail;refine HF.o.mono ?_;rintro o w1 ⟨rfl,O⟩;have Q:=ac.o.below y.o.2 O;clear O;go_wp2_with fail;go_loopw [17] (fun i wr=>i=I J 0/\wr=w1) (fun _ _=>0);case atStart=>exact⟨rfl,rfl⟩
   case round=>
    obtain⟨rfl,rfl⟩:=hrel;go_wp2;go_ret;refine⟨rfl,?_⟩;simpa using Q
 .obtain⟨g,off,rfl,hgP,hggs,hglt,hc⟩:=U.o.cells a7;have HC:=hI hc;have a0:Hid (g≠P/\g≠gs/\g<W.heap.size):=⟨hgP,hggs,hglt⟩
  have Y:Hid ((Tp.info? ty).map (·.size)=sQ q):=by rcases D with⟨_,_,rfl,rfl⟩|⟨_,_,rfl,rfl⟩;exact cE;exact i7
  clear hc hgP hggs hglt;rcases D with⟨rfl,rfl,rfl,rfl⟩|⟨rfl,rfl,rfl,rfl⟩
  all_goals
   first|go_enter func241,ntmps241|go_enter func242,ntmps242
   go_wp2_with fail;refine HF.o.mono ?_;rintro o w1 ⟨rfl,O⟩;have Q:=ac.o.below y.o.2 O;clear O HF;go_wp2_with fail;clear a6 aw;go_loopw [17] (fun i wr=>∃k:Nat,k<=t/\i=I J (k:Int)/\ptF f dt _ T l w0 W wr P gs room first (L++e.take k) (L.length+k)) (fun i _=>t-(intOf i).toNat);case atStart=>exact⟨0,nZ _,rfl,by simpa using Q⟩
   case round=>
    clear Q;obtain⟨k,hk,rfl,hp⟩:=hrel;have E:=sM hp;clear hp;by_cases bt:k<t
    .have hkl:k<e.length:=by have:=U.o.len;omega
     obtain⟨d,m,N,b4,b5⟩:=HC.o k hkl;have a3:(L++e.take k).length=L.length+k:=by rw[QX,qh];omega
     have ad:=sM (fun j v hv=>(eV (E.o.k g a0.o.1 a0.o.2.1 a0.o.2.2) _).trans (b4 j v hv):wr.rangeAt g _ (f e[k] d m N))
     have b8:=sM (fun(X:Wd)C(hX:ptF f dt _ T l w0 W X P gs room first (L++e.take k) C)=>by
      have:=hX.store HQ.o.1 y.o.1 G.o.2 (by rw[a3];have:=af.o;omega) e[k] d m N b5
      rw[a3,Q2,<- qe hkl]at this
      exact this)
     have a8:=HQ.o.1 e[k] d m N;have a9:=sM (HQ.o.2 e[k] d m N);have bm:Int.tmod ((first:Int)+((L.length+k:Nat):Int)) (room:Int)=(((first+(L.length+k))%room:Nat):Int):=by
      rw[<- Int.natCast_add];exact Int.ofNat_tmod _ _
     have bo:(first+(L.length+k))%room<room:=Qc _ (by have:=G.o;omega);have bA:¬(room:Int)=0:=by have:=G.o;omega
     have b6:Hid (L.length+k+1=L.length+(k+1)):=by show _=_;omega
     have bw:=G.o.1;have bs:=G.o.2;have bf:=af.o;have bq:L.length+k<=1000:=om;clear b4 b5 a3 bf;generalize f e[k] d m N=r at*;have A:=sM a8;clear a8;generalize bg:L.length+k=C at*;clear bg;generalize bi:(first+C)%room=ak at*;clear bi;obtain⟨B,a4⟩:∃B,B=wr.heap.size:=⟨_,rfl⟩
     have b7:Hid (B≠gs):=by show _≠_;have:=y.o.2;have:=E.o.s;omega
     go_wp2_with(first|(refine Qk (P:=Tp) rfl _ _ rfl g _ rfl r _ ad.o (by first|exact underlying53|exact underlying212) rfl (by rw[A.o];exact Y.o) ?_)|(refine Qo (P:=Tp) rfl _ _ _ rfl wr.heap.size 0 r.toArray rfl rfl ((blk.new wr _ _).there 0 _ (by rw[Q7,A.o];decide)) (by rw[Q7,A.o];exact Y.o) a9.o ?_;generalize am:World.setCells (wr.alloc _) wr.heap.size 0 _=x;have a1:Hid (blk x B r _/\Bl wr x):=(by rw[<- am,a4];exact Ie (by rw[A.o];rfl));clear am))
     have H:=sM (E.o.below y.o.2 a1.o.2);rw[<- a4];clear E ad a4;have b9:=hI (H.o.z.there (ak*_) _ (by rw[<- Nat.succ_mul];exact qx _ bo));refine Qu (S:=(fun X=>X.cell? ⟨P,u,nn⟩=sQ (sL (be gs) room room)/\X.cell? ⟨P,u+1,nn⟩=sQ (I J (first:Int))/\X.cell? ⟨P,u+2,nn⟩=sQ (I J (C:Int))/\X.rangeAt B 0 r)) kr ?_;have hS:(World.drew x).cell? ⟨P,u,nn⟩=sQ (sL (be gs) room room)/\(World.drew x).cell? ⟨P,u+1,nn⟩=sQ (I J (first:Int))/\(World.drew x).cell? ⟨P,u+2,nn⟩=sQ (I J (C:Int))/\(World.drew x).rangeAt B 0 r:=⟨H.o.p.cell u _ (w.o.a _),H.o.p.cell _ _ (w.o.b _),H.o.p.cell _ _ (w.o.c _),a1.o.1.load⟩
     refine tk 0 ?_;refine tk 1 ?_;refine tk 2 ?_;refine tk 3 ?_;refine tk 4 ?_;refine tk 5 ?_;refine tk 6 ?_;refine tk 7 ?_;refine tk 8 ?_;refine tk 9 ?_;refine tk 10 ?_;refine tk 11 ?_;refine tk 12 ?_ (v:=I J ((first:Int)+(C:Int))) (hy:=fun X hX=>by(clear hS;go_simp;rw[QC];omega));refine tk 13 ?_;refine tk 14 ?_;refine tk 15 ?_;refine tk 16 ?_;refine tk 17 ?_;refine tk 18 ?_ (v:=I J (ak:Int)) (hy:=fun X hX=>by(clear hS;go_simp;omega));refine wU 19 (aG r.toArray) rfl (Qw (by rfl) _ (.tmp 7) rfl B 0 rfl r _ (fun X h=>h.2.2.2) (by first|exact underlying53|exact underlying212) rfl (by rw[A.o];exact Y.o)) hS ?_;simp only[aZ];refine tk 20 ?_;refine al 21 fun bb D=>?_;rw[QW (by rfl)];refine QE _ (.tmp 41) (.tmp 40) rfl gs _ r.toArray rfl rfl (by rw[Q7,A.o];exact b9.o) (by rw[Q7,A.o];exact Y.o) a9.o ?_;simp only[Act.put,aD,aE,aF];have K:=sM (b8.o _ _ (H.o.below y.o.2 (bW _ _).drew));refine D.out _ (World.setCells (World.drew x) gs _ r) ⟨K.o.p.cell _ _ (w.o.a _),K.o.p.cell _ _ (w.o.b _),K.o.p.cell _ _ (w.o.c _),((a1.o.1.below (bW _ _).drew).other b7.o _ _).load⟩ (fun _=>?_);clear hS D bb;refine Qs kr ?_ _;clear bm;generalize ao:World.setCells (World.drew x) gs _ _=w5;have a2:=hI (ao ▸ K.o);clear ao K;have z2:=a2.o.p.cell _ _ (w.o.c _);have bE:=a2.o.p.free (u+2);go_wp2;go_roundw;case rel=>
      refine⟨k+1,om,by go_num,?_⟩;rw[<- b6.o];exact a2.o.count w.o y.o.1 (C+1)
     case measure=>simp[intOf];omega
    .have hkt:k=t:=om;subst hkt;go_wp2;go_ret;exact⟨rfl,E.o⟩
set_option maxRecDepth 40000
section
variable{w:World}{b:Nat}{s:Sl}
structure Co where
 p:Int
 ct:Int
 lv:Int
 wk:Bool
 ov:Bool
 ow:Bool
 tx:Bool
 ak:Bool
 rn:Int
 te:Int
 re:Int
 ho:Ho
abbrev coV(C:Co)(s:Sl):Value:=aG #[I J C.p,I J C.ct,I J C.lv,bO C.wk,bO C.ov,bO C.ow,bO C.tx,bO C.ak,I J C.rn,I J C.te,I J C.re,I J C.ho.c0,I J C.ho.c1,I J C.ho.c2,I J C.ho.c3,sL s.a1 s.n1 s.k1,sL s.a2 s.n2 s.k2,sL s.a3 s.n3 s.k3,sL s.a4 s.n4 s.k4,I J C.ho.lo,I J C.ho.st]
def tJ(w:World)(C:Co)(s:Sl)(h:bj w C.ho s)(g:C.ho.le 9223372036854775807):ce 11 #[coV C s,I J 1048576] w fun o w'=>∃z:Int,o=rT (I J z)/\Bl w w'/\(z= -1\/∃a:Nat,z=(a:Int)/\C.ho.le 1048576/\a<=1048576):=by
 have i:Hid (∀X,Bl w X->ce 40 #[hoV C.ho s,I J 1048576] X fun o w'=>∃z:Int,o=rT (I J z)/\Bl w w'/\(z= -1\/∃a:Nat,z=(a:Int)/\C.ho.le 1048576/\a<=1048576)):=by
  intro X d;refine(tI X C.ho s (h.below d) g 1048576 om).mono ?_;rintro o w' ⟨z,rfl,h1,c⟩;exact⟨z,rfl,d.trans (h1.mono d.size),c⟩
 clear h g;obtain⟨p,ct,lv,wk,ov,ow,tx,l,rn,te,re,⟨n,c1,c2,c3,r,bx,ff,qu,lo,st⟩⟩:=C;obtain⟨a1,n1,k1,a2,n2,k2,a3,n3,k3,a4,n4,k4⟩:=s;go_enter func11,ntmps11;go_wp2_with(go_at_call 40;refine(i.o _ Zw).mono ?_;rintro o k ⟨z,rfl,e,c⟩;have f:Hid (Bl w k):=e;clear e;rcases c with rfl|⟨a,rfl,j⟩)
 .go_ret;exact⟨_,rfl,f.o,.inl rfl⟩
 .go_ret;exact⟨_,rfl,f.o,.inr ⟨a,rfl,j⟩⟩
def sX(w:World)(C:Co)(s a:Sl)(h:bj w C.ho s)(d:bj w C.ho a)(e:C.ho.le 1048576):ce 31 #[coV C s,coV C a] w fun o w'=>o=rT (bO true)/\Bl w w':=by
 have g:Hid (∀X,Bl w X->ce 85 #[hoV C.ho s,hoV C.ho a] X fun o w'=>o=rT (bO true)/\Bl w w'):=by
  intro X c;refine(sV X C.ho s a (h.below c) (d.below c) e).mono ?_;rintro o w' ⟨rfl,h1⟩;exact⟨rfl,c.trans (h1.mono c.size)⟩
 clear h d e;obtain⟨p,ct,lv,wk,ov,ow,tx,j,rn,te,re,⟨t,c1,c2,c3,u,bx,ff,qu,lo,st⟩⟩:=C;obtain⟨a1,n1,k1,a2,n2,k2,a3,n3,k3,a4,n4,k4⟩:=s;obtain⟨k,D,x,l,E,y,n,G,A,r,H,B⟩:=a;have v:∀b:Bool,(b !=b)=false:=by intro b;simp
 have hi:∀i:Int,(i !=i)=false:=by intro i;simp
 go_enter func31,ntmps31;go_wp2_with(go_at_call 85;refine(g.o _ (Zw.alloc pQ _)).mono ?_;rintro o K ⟨rfl,f⟩);go_ret;exact⟨rfl,f⟩
def coL(C:Co)(s:Sl):List Value:=[I J C.p,I J C.ct,I J C.lv,bO C.wk,bO C.ov,bO C.ow,bO C.tx,bO C.ak,I J C.rn,I J C.te,I J C.re,I J C.ho.c0,I J C.ho.c1,I J C.ho.c2,I J C.ho.c3,sL s.a1 s.n1 s.k1,sL s.a2 s.n2 s.k2,sL s.a3 s.n3 s.k3,sL s.a4 s.n4 s.k4,I J C.ho.lo,I J C.ho.st]
def coM(C:Co):List Value:=[I J C.p,I J C.ct,I J C.lv,bO C.wk,bO C.ov,bO C.ow,bO C.tx,bO C.ak,I J C.rn,I J C.te,I J C.re]
def AZ(C:Co)(s:Sl):coV C s=aG (coL C s).toArray:=rfl
def cL(C:Co)(s:Sl):(coL C s).length=21:=rfl
def DK(C:Co)(s:Sl):coL C s=coM C++hoL C.ho s:=rfl
def cO(C:Co)(s:Sl):(coL C s).toArray.all (·.oneCell')=true:=Qv (by simp[coL,Value.oneCell'])
def Gd:(Tp.info? 31).map (·.size)=some 21:=kr
def rJ:(Tp.info? 52).map (·.size)=some 21:=kr
def yG(C:Co)(s:Sl):(Tp.info? 31).map (·.size)=some (coL C s).length:=Gd
def aV(C:Co)(s:Sl):(Tp.info? 52).map (·.size)=some (coL C s).length:=rJ
def eY(C:Co)(s:Sl):(Tp.info? 52).map (·.size)=some (coL C s).toArray.size:=rJ
def Z21:List Value:=[I J 0,I J 0,I J 0,bO false,bO false,bO false,bO false,bO false,I J 0,I J 0,I J 0,I J 0,I J 0,I J 0,I J 0,sL none 0 0,sL none 0 0,sL none 0 0,sL none 0 0,I J 0,I J 0]
def blk.hostAt{C:Co}{T:TypeId}(h:blk w b (coL C s) T):w.rangeAt b 11 (hoL C.ho s):=by
 have a:blk w b (coM C++hoL C.ho s++[]) T:=by rw[Qg,<- DK];exact h
 exact a.loadAt (coM C) (hoL C.ho s) []
def jv(H:Ho)(s:Sl):(Tp.info? 50).map (·.size)=some (hoL H s).length:=kr
structure ctS(w:World)(b:Nat)(C:Co)(s:Sl)(W:World):Prop where
 p:blk W b (coL C s) 52
 b:Bl w W
def ctS.below{C:Co}{W W':World}(h:ctS w b C s W)(hb:Bl W W'):ctS w b C s W':=⟨h.p.below hb,h.b.trans (hb.mono h.b.size)⟩
def ctS.new(w:World)(C:Co)(s:Sl):ctS w w.heap.size C s (w.alloc (.cells (coL C s).toArray 52)):=⟨blk.new w _ 52,Zw⟩
end
def sgL:List Value:=[I J 0,I J 0,bO false,bO false,I J 0,bO false,I .u32 0,bO false,I J 0,sL none 0 0]
def mcH(P:Nat)(C:Co):List Value:=[ap P,I J C.te,I J C.re,I J C.p,I J C.ct,I J C.lv,bO C.wk,bO C.ov,bO C.ow,bO C.tx,bO C.ak,I J C.rn]
def mcL(P:Nat)(C:Co):List Value:=mcH P C++(sgL++prL)
def pr{R:Nat->World->Prop}(hR:∀P W W',R P W->Bl W W'->R P W')(w:World)(C:Co)(s:Sl)(ho:∀W,Bl w W->ce 129 #[aG (hoL C.ho s).toArray] W fun o w'=>∃P,o=rT (ap P)/\R P w'/\Bl W w'):ce 80 #[aG (coL C s).toArray] w fun o w'=>∃P j,o=rT (ap j.heap.size)/\w'=j.alloc (.cells (mcL P C).toArray 184)/\R P j/\Bl w j:=by
 have t:Hid (∀W,Bl w W->ce 129 #[aG (hoL C.ho s).toArray] W fun o w'=>∃P,o=rT (ap P)/\R P w'/\Bl W w'):=ho;have x:Hid (∀P W W',R P W->Bl W W'->R P W'):=hR;have u:Hid (∀W,ce 130 #[] W fun o w'=>o=rT (aG prL.toArray)/\Bl W w'):=fun W=>i9 W;have k:Hid (ctS w w.heap.size C s (w.alloc (.cells (coL C s).toArray 52))):=ctS.new w C s;clear ho hR;go_enter func80,ntmps80;go_wp2_with fail;refine Qu (S:=fun X=>ctS w w.heap.size C s X) kr ?_;have hS:ctS w w.heap.size C s (World.drew (w.alloc (.cells (coL C s).toArray 52))):=k.o.below (bW _ _).drew;clear k;change wpAnyH Tp _ _ _ _ _ _ _ (World.drew (w.alloc (.cells (coL C s).toArray 52)));generalize World.drew (w.alloc (.cells (coL C s).toArray 52))=D at*;refine tk 0 ?_;refine wU 1 (aG (hoL C.ho s).toArray) rfl (Qw (by rfl) 50 (.tmp 3) rfl w.heap.size 11 rfl (hoL C.ho s) _ (fun X h=>h.p.hostAt) underlying50 rfl (jv C.ho s)) hS ?_;simp only[aZ];refine tk 3 ?_;refine tk 4 ?_ (hy:=fun W a=>by(have y:=a.p.cell 9 (I J C.te) rfl;go_simp;try rfl));refine tk 5 ?_;refine tk 6 ?_ (hy:=fun W a=>by(have y:=a.p.cell 10 (I J C.re) rfl;go_simp;try rfl));refine tk 8 ?_;refine tk 9 ?_ (hy:=fun W a=>by(have y:=a.p.cell 0 (I J C.p) rfl;go_simp;try rfl));refine tk 10 ?_;refine tk 11 ?_ (hy:=fun W a=>by(have y:=a.p.cell 1 (I J C.ct) rfl;go_simp;try rfl));refine tk 12 ?_;refine tk 13 ?_ (hy:=fun W a=>by(have y:=a.p.cell 2 (I J C.lv) rfl;go_simp;try rfl));refine tk 14 ?_;refine tk 15 ?_ (hy:=fun W a=>by(have y:=a.p.cell 3 (bO C.wk) rfl;go_simp;try rfl));refine tk 16 ?_;refine tk 17 ?_ (hy:=fun W a=>by(have y:=a.p.cell 4 (bO C.ov) rfl;go_simp;try rfl));refine tk 18 ?_;refine tk 19 ?_ (hy:=fun W a=>by(have y:=a.p.cell 5 (bO C.ow) rfl;go_simp;try rfl));refine tk 20 ?_;refine tk 21 ?_ (hy:=fun W a=>by(have y:=a.p.cell 6 (bO C.tx) rfl;go_simp;try rfl));refine tk 22 ?_;refine tk 23 ?_ (hy:=fun W a=>by(have y:=a.p.cell 7 (bO C.ak) rfl;go_simp;try rfl));refine tk 24 ?_;refine tk 25 ?_ (hy:=fun W a=>by(have y:=a.p.cell 8 (I J C.rn) rfl;go_simp;try rfl));refine tk 26 ?_;refine al 2 fun g c=>?_;go_simp;refine(t.o _ hS.b).mono ?_;rintro o B ⟨P,rfl,n,f⟩;have d:=hS.below f;have l:Hid (R P B):=n;clear n f;go_wp2_with fail;refine c.out _ _ d (fun e=>?_);clear c g d hS;have hS:=e;clear e;refine tk 7 ?_;refine al 27 fun g c=>?_;go_simp;refine(u.o _).mono ?_;rintro o i ⟨rfl,f⟩;have d:=hS.below f;have A:Hid (R P i):=x.o _ _ _ l.o f;clear f l;go_wp2_with fail;refine c.out _ _ d (fun e=>?_);clear c g d hS;have hS:=e;clear e;refine tk 28 (v:=aG (mcL P C).toArray) ?_ (hy:=fun W a=>by(simp only[prL,mcL,mcH,sgL,List.cons_append,List.nil_append];go_simp;try rfl));refine al 29 fun g c=>?_;go_simp;have d:ctS w w.heap.size C s (i.alloc (.cells (mcL P C).toArray 184)):=hS.below Zw;have r:Hid (Bl w i):=hS.b;refine c.out _ _ d (fun e=>?_);clear c g d hS;have hS:=e;clear e;refine tk 30 ?_;refine Qs kr ?_ _;go_wp2_with fail;go_ret;exact⟨P,i,rfl,rfl,A.o,r.o⟩
structure okM(C:Co):Prop where
 p:0<=C.p/\C.p<=7
 te:0<=C.te/\C.te<=256
 re:0<=C.re/\C.re<=255
 of:C.p=7↔C.te=256
 ct:rLo C.p<=C.ct/\C.ct<=rHi C.p
 lv:0<=C.lv/\C.lv<=1
 l1:C.lv=1->C.p=2/\C.wk=true/\0<C.ct
 wk:C.wk=true->C.p=2/\C.ov=false
 ov:C.ov=true->C.p=2\/C.p=3\/C.p=4
 ow:C.ow=true->C.wk=true/\C.tx=true
 tx:C.tx=true->C.p≠7/\C.p≠0
 t6:C.p=6->C.tx=true
 ak:C.ak=true->C.p=7
 rn:0<=C.rn/\C.rn<128
 na:C.ak=false->C.rn=0/\(C.p=7->C.ct=0)
end Go.Proofs.YtbbffcolnddcdaaGreatDoor
