import Derived.Test.YtgfolecanghhhaaGreatK07
import Derived.Test.YtgfolecanghhhaaGreatK11
import Derived.Deep.RegionHeld3
namespace Go.Proofs.YtgfolecanghhhaaGreat
open Go.Proofs.Tryz
set_option maxRecDepth 20000
open Go.RowKit
set_option linter.all false
set_option maxHeartbeats 16000000
open Go.Value renaming int->I,slice->sL,bool->bO,pointer->pT,agg->aG
open Go.IntKind renaming i64->J
open Go.Ending renaming returned->rT
open Go.Proofs.Tryz renaming prog->Tp
section
variable {k:Nat}
def dZ (b:R5):Bool:=vB b.e b.i b.r b.d b.l.length
def yd (b:R8):Bool:=decide ((1<=b.x/\b.x<=12)/\(0<=b.y/\b.y<=9999)/\(0<=b.z/\b.z<=9)) && vB b.e b.i b.r b.d b.l.length
def gW (w:World) (b:R5) (a:Option Addr) (n cap:Nat) (h:iB w a n cap b.l) :
  Calls Tp 135 #[frV b.e b.i b.r b.d a n cap] w fun o w'=>o = rT (bO (!dZ b))/\Bl w w':=by
 have hlen:=h.len
 have HV:Hid (∀ W,Bl w W->Calls Tp 148 #[frV b.e b.i b.r b.d a n cap] W fun o w'=>o = rT (bO (dZ b))/\Bl W w'):=fun W hW=>by
  have:=dU W b.e b.i b.r b.d a n cap b.l (h.below hW);rw[hlen] at this;unfold dZ;rw[hlen];exact this
 clear h hlen;generalize dZ b=R at *;obtain⟨e,i,r,d,l⟩:=b;go_enter func135,ntmps135;go_wp2_with fail;refine (HV.o _ Zw).mono ?_;rintro o w1 ⟨rfl,hb1⟩;have HB:Hid (Bl w w1):=Zw.trans (hb1.mono pQ);clear hb1;cases R
 .go_wp2_with fail;go_ret;exact⟨rfl,HB.o⟩
 .go_wp2_with fail;go_ret;exact⟨rfl,HB.o⟩
def kB (w:World) (b:R8) (a:Option Addr) (n cap:Nat) (h:iB w a n cap b.l) :
  Calls Tp 137 #[bxV b.x b.y b.z b.e b.i b.r b.d a n cap] w fun o w'=>o = rT (bO (!yd b))/\Bl w w':=by
 have HV:Hid (∀ W,Bl w W->Calls Tp 135 #[frV b.e b.i b.r b.d a n cap] W fun o w'=>o = rT (bO (!vB b.e b.i b.r b.d b.l.length))/\Bl W w'):=fun W hW=>gW W ⟨b.e,b.i,b.r,b.d,b.l⟩ a n cap (h.below hW);clear h;have HO:Hid (yd b=(decide ((1<=b.x/\b.x<=12)/\(0<=b.y/\b.y<=9999)/\(0<=b.z/\b.z<=9)) && vB b.e b.i b.r b.d b.l.length)):=rfl;generalize yd b=Q at *;generalize vB b.e b.i b.r b.d b.l.length=R at *;obtain⟨x,y,z,e,i,r,d,l⟩:=b;simp only[] at HV HO ⊢;have HA:Hid (Bl w (w.alloc (.cells #[I J x,I J y,I J z,bO e,I .u32 (i:Int),bO r,I J d,sL a n cap] 175))):=Zw;have hx:decide (1<=x/\x<=12)=true\/decide (1<=x/\x<=12)=false:=by cases decide (1<=x/\x<=12) <;> simp
 have hy:decide (0<=y/\y<=9999)=true\/decide (0<=y/\y<=9999)=false:=by cases decide (0<=y/\y<=9999) <;> simp
 have hz:decide (0<=z/\z<=9)=true\/decide (0<=z/\z<=9)=false:=by cases decide (0<=z/\z<=9) <;> simp
 have HIR:Hid (∀ (W:World) (v l m:Int) (bb:Bool),decide (l<=v/\v<=m)=bb->Calls Tp 79 #[I J v,I J l,I J m] W fun o w'=>o = rT (bO bb)/\W=w'):=fun W v l m bb hbb=>hbb ▸ dh W v l m;rcases hx with hx|hx
 .rcases hy with hy|hy
  .rcases hz with hz|hz
   .have HQ:Hid (Q=R):=by
     have:=HO.o;simp only[qP] at hx hy hz;rw[this,qD ⟨hx,hy,hz⟩];rfl
    have I1:=fun W=>HIR.o W x 1 12 true hx;have I2:=fun W=>HIR.o W y 0 9999 true hy;have I3:=fun W=>HIR.o W z 0 9 true hz;have J1:Hid (∀ W,Calls Tp 79 #[I J x,I J 1,I J 12] W fun o w'=>o = rT (bO true)/\W=w'):=I1;have J2:Hid (∀ W,Calls Tp 79 #[I J y,I J 0,I J 9999] W fun o w'=>o = rT (bO true)/\W=w'):=I2;have J3:Hid (∀ W,Calls Tp 79 #[I J z,I J 0,I J 9] W fun o w'=>o = rT (bO true)/\W=w'):=I3;clear I1 I2 I3 hx hy hz HIR HO;go_enter func137,ntmps137
    go_wp2_with (first
     | (go_at_call 79;first | (refine (J1.o _).mono ?_;rintro o w1 ⟨rfl,rfl⟩;clear J1) | (refine (J2.o _).mono ?_;rintro o w1 ⟨rfl,rfl⟩;clear J2) | (refine (J3.o _).mono ?_;rintro o w1 ⟨rfl,rfl⟩;clear J3))
     | (go_at_call 135;refine (HV.o _ HA.o).mono ?_;rintro o w1 ⟨rfl,hb1⟩))
    go_ret;exact⟨aj (by rw[HQ.o]),HA.o.trans (hb1.mono HA.o.size)⟩
   .have HQ:Hid (Q=false):=by
     have:=HO.o;simp only[decide_eq_false_iff_not] at hz;rw[this,qo (fun h=>hz h.2.2)];rfl
    have J1:Hid (∀ W,Calls Tp 79 #[I J x,I J 1,I J 12] W fun o w'=>o = rT (bO true)/\W=w'):=fun W=>HIR.o W x 1 12 true hx;have J2:Hid (∀ W,Calls Tp 79 #[I J y,I J 0,I J 9999] W fun o w'=>o = rT (bO true)/\W=w'):=fun W=>HIR.o W y 0 9999 true hy;have J3:Hid (∀ W,Calls Tp 79 #[I J z,I J 0,I J 9] W fun o w'=>o = rT (bO false)/\W=w'):=fun W=>HIR.o W z 0 9 false hz;clear hx hy hz HIR HO HV;go_enter func137,ntmps137
    go_wp2_with (go_at_call 79;first | (refine (J1.o _).mono ?_;rintro o w1 ⟨rfl,rfl⟩;clear J1) | (refine (J2.o _).mono ?_;rintro o w1 ⟨rfl,rfl⟩;clear J2) | (refine (J3.o _).mono ?_;rintro o w1 ⟨rfl,rfl⟩;clear J3))
    go_ret;exact⟨aj (by rw[HQ.o];rfl),HA.o⟩
  .have HQ:Hid (Q=false):=by
    have:=HO.o;simp only[decide_eq_false_iff_not] at hy;rw[this,qo (fun h=>hy h.2.1)];rfl
   have J1:Hid (∀ W,Calls Tp 79 #[I J x,I J 1,I J 12] W fun o w'=>o = rT (bO true)/\W=w'):=fun W=>HIR.o W x 1 12 true hx;have J2:Hid (∀ W,Calls Tp 79 #[I J y,I J 0,I J 9999] W fun o w'=>o = rT (bO false)/\W=w'):=fun W=>HIR.o W y 0 9999 false hy;clear hx hy hz HIR HO HV;go_enter func137,ntmps137
   go_wp2_with (go_at_call 79;first | (refine (J1.o _).mono ?_;rintro o w1 ⟨rfl,rfl⟩;clear J1) | (refine (J2.o _).mono ?_;rintro o w1 ⟨rfl,rfl⟩;clear J2))
   go_ret;exact⟨aj (by rw[HQ.o];rfl),HA.o⟩
 .have HQ:Hid (Q=false):=by
   have:=HO.o;simp only[decide_eq_false_iff_not] at hx;rw[this,qo (fun h=>hx h.1)];rfl
  have J1:Hid (∀ W,Calls Tp 79 #[I J x,I J 1,I J 12] W fun o w'=>o = rT (bO false)/\W=w'):=fun W=>HIR.o W x 1 12 false hx;clear hx hy hz HIR HO HV;go_enter func137,ntmps137
  go_wp2_with (go_at_call 79;refine (J1.o _).mono ?_;rintro o w1 ⟨rfl,rfl⟩)
  go_ret;exact⟨aj (by rw[HQ.o];rfl),HA.o⟩
def iF {α:Type} {p:α->Bool} {bs:List α} (hk:k<bs.length) (h:∀ j (hj:j<bs.length),j<k->p bs[j]=true) (h1:p bs[k]=true):∀ j (hj:j<bs.length),j<k+1->p bs[j]=true:=by
 intro j hj h2;by_cases e:j=k
 .subst e;exact h1
 .exact h j hj om
def jx {α:Type} {p:α->Bool} {bs:List α} (hk:bs.length<=k) (h:∀ j (hj:j<bs.length),j<k->p bs[j]=true):bs.all p=true:=by
 rw[Qb];intro x hx;obtain⟨j,hj,rfl⟩:=List.getElem_of_mem hx;exact h j hj om
def kA {α:Type} {p:α->Bool} {bs:List α} (hk:k<bs.length) (h1:p bs[k]=false):bs.all p=false:=by
 rw[List.all_eq_false];exact⟨bs[k],qn hk,by rw[h1];simp⟩
def lx (w:World) (a:Option Addr) (n cap:Nat) (bs:List R5) (h:cl w a n cap bs) (hn:n<=1048576) :
  Calls Tp 175 #[sL a n cap,.func (.func 135) #[] #[]] w fun o w'=>∃ z:Int,o = rT (I J z)/\decide (0<=z) = !bs.all dZ/\Bl w w':=by
 have hlen:=h.len;have hcp:=h.cap;by_cases hl:bs=[]
 .subst hl;have hn0:n=0:=hlen;subst hn0;clear hlen h;go_enter func175,ntmps175;go_wp2;go_loopw [8] (fun i wr=>i = I J 0/\wr=w) (fun _ _=>0);case atStart=>exact⟨rfl,rfl⟩
  case round=>
   obtain⟨rfl,rfl⟩:=hrel;go_wp2;go_ret;exact⟨-1,rfl,rfl,bW _ _⟩
 .obtain⟨g,off,rfl,hc⟩:=h.cells hl;have HL:Hid (n=bs.length):=hlen;have HC:Hid (∀ j (h:j<bs.length),∃ ao m c,at5 w g (off+j*5) bs[j] ao m c):=hc;clear h hlen hc;go_enter func175,ntmps175;go_wp2;go_loopw [8] (fun i wr=>∃ k:Nat,k<=n/\i = I J (k:Int)/\(∀ j (hj:j<bs.length),j<k->dZ bs[j]=true)/\Bl w wr) (fun i _=>n-(intOf i).toNat);case atStart=>exact⟨0,nZ _,rfl,fun j hj h=>Qy h (nN _),bW _ _⟩
  case round=>
   obtain⟨k,hk,rfl,hdone,hb⟩:=hrel;by_cases hlt:k<n
   .have hkl:k<bs.length:=by have:=HL.o;omega
    obtain⟨ao,m,c,hx⟩:=HC.o k hkl;have hx':=hx.below hb;have HRG:Hid (wr.rangeAt g (off+k*5) [bO bs[k].e,I .u32 (bs[k].i:Int),bO bs[k].r,I J bs[k].d,sL ao m c]):=hx'.range;have HW:Hid (Calls Tp 135 #[frV bs[k].e bs[k].i bs[k].r bs[k].d ao m c] wr fun o w'=>o = rT (bO (!dZ bs[k]))/\Bl wr w'):=gW wr bs[k] ao m c hx'.dat;have HB:Hid (Bl w wr):=hb;have HD:Hid (∀ j (hj:j<bs.length),j<k->dZ bs[j]=true):=hdone;clear hx hx' hb hdone;cases hok:dZ bs[k]
    .have HN:Hid (bs.all dZ=false):=kA hkl hok;rw[hok] at HW
     clear hok;generalize bs[k].e=e0 at *;generalize bs[k].i=i0 at *;generalize bs[k].r=r0 at *;generalize bs[k].d=d0 at *;go_wp2_with (first
      | (refine ZG 67 HRG.o underlying67 jc ?_)
      | (go_at_call 135;refine HW.o.mono ?_;rintro o w5 ⟨rfl,hb5⟩))
     go_ret;exact⟨_,rfl,by rw[HN.o];simp,HB.o.trans (hb5.mono HB.o.size)⟩
    .have HN:Hid (∀ j (hj:j<bs.length),j<k+1->dZ bs[j]=true):=iF hkl HD.o hok;rw[hok] at HW
     clear hok;generalize bs[k].e=e0 at *;generalize bs[k].i=i0 at *;generalize bs[k].r=r0 at *;generalize bs[k].d=d0 at *;go_wp2_with (first
      | (refine ZG 67 HRG.o underlying67 jc ?_)
      | (go_at_call 135;refine HW.o.mono ?_;rintro o w5 ⟨rfl,hb5⟩))
     go_roundw;case rel=>exact⟨k+1,om,by go_num,HN.o,HB.o.trans (hb5.mono HB.o.size)⟩
     case measure=>simp[intOf];omega
   .have HN:Hid (bs.all dZ=true):=jx (by have:=HL.o;omega) hdone;clear hdone;go_wp2;go_ret;exact⟨_,rfl,by rw[HN.o];simp,hb⟩
def ju (w:World) (a:Option Addr) (n cap:Nat) (bs:List R5) (h:cl w a n cap bs) (hn:n<=1048576) :
  Calls Tp 134 #[sL a n cap,.func (.func 135) #[] #[]] w fun o w'=>o = rT (bO (!bs.all dZ))/\Bl w w':=by
 have HI:Hid (Calls Tp 175 #[sL a n cap,.func (.func 135) #[] #[]] w fun o w'=>∃ z:Int,o = rT (I J z)/\decide (0<=z) = !bs.all dZ/\Bl w w'):=lx w a n cap bs h hn;clear h;go_enter func134,ntmps134;go_wp2_with (go_at_call 175;refine HI.o.mono ?_;rintro o w5 ⟨z,rfl,hz,hb5⟩;have HZ:Hid (decide (0<=z) = !bs.all dZ):=hz;clear hz);go_ret;exact⟨aj HZ.o,hb5⟩
def ly (w:World) (a:Option Addr) (n cap:Nat) (bs:List R8) (h:aM w a n cap bs) (hn:n<=1048576) :
  Calls Tp 176 #[sL a n cap,.func (.func 137) #[] #[]] w fun o w'=>∃ z:Int,o = rT (I J z)/\decide (0<=z) = !bs.all yd/\Bl w w':=by
 have hlen:=h.len;have hcp:=h.cap;by_cases hl:bs=[]
 .subst hl;have hn0:n=0:=hlen;subst hn0;clear hlen h;go_enter func176,ntmps176;go_wp2;go_loopw [8] (fun i wr=>i = I J 0/\wr=w) (fun _ _=>0);case atStart=>exact⟨rfl,rfl⟩
  case round=>
   obtain⟨rfl,rfl⟩:=hrel;go_wp2;go_ret;exact⟨-1,rfl,rfl,bW _ _⟩
 .obtain⟨g,off,rfl,hc⟩:=h.cells hl;have HL:Hid (n=bs.length):=hlen;have HC:Hid (∀ j (h:j<bs.length),∃ ao m c,at8 w g (off+j*8) bs[j] ao m c):=hc;clear h hlen hc;go_enter func176,ntmps176;go_wp2;go_loopw [8] (fun i wr=>∃ k:Nat,k<=n/\i = I J (k:Int)/\(∀ j (hj:j<bs.length),j<k->yd bs[j]=true)/\Bl w wr) (fun i _=>n-(intOf i).toNat);case atStart=>exact⟨0,nZ _,rfl,fun j hj h=>Qy h (nN _),bW _ _⟩
  case round=>
   obtain⟨k,hk,rfl,hdone,hb⟩:=hrel;by_cases hlt:k<n
   .have hkl:k<bs.length:=by have:=HL.o;omega
    obtain⟨ao,m,c,hx⟩:=HC.o k hkl;have hx':=hx.below hb;have HRG:Hid (wr.rangeAt g (off+k*8) [I J bs[k].x,I J bs[k].y,I J bs[k].z,bO bs[k].e,I .u32 (bs[k].i:Int),bO bs[k].r,I J bs[k].d,sL ao m c]):=hx'.range;have HW:Hid (Calls Tp 137 #[bxV bs[k].x bs[k].y bs[k].z bs[k].e bs[k].i bs[k].r bs[k].d ao m c] wr fun o w'=>o = rT (bO (!yd bs[k]))/\Bl wr w'):=kB wr bs[k] ao m c hx'.dat;have HB:Hid (Bl w wr):=hb;have HD:Hid (∀ j (hj:j<bs.length),j<k->yd bs[j]=true):=hdone;clear hx hx' hb hdone;cases hok:yd bs[k]
    .have HN:Hid (bs.all yd=false):=kA hkl hok;rw[hok] at HW
     clear hok;generalize bs[k].x=x0 at *;generalize bs[k].y=y0 at *;generalize bs[k].z=z0 at *;generalize bs[k].e=e0 at *;generalize bs[k].i=i0 at *;generalize bs[k].r=r0 at *;generalize bs[k].d=d0 at *;go_wp2_with (first
      | (refine ZG 175 HRG.o underlying175 Gl ?_)
      | (go_at_call 137;refine HW.o.mono ?_;rintro o w5 ⟨rfl,hb5⟩))
     go_ret;exact⟨_,rfl,by rw[HN.o];simp,HB.o.trans (hb5.mono HB.o.size)⟩
    .have HN:Hid (∀ j (hj:j<bs.length),j<k+1->yd bs[j]=true):=iF hkl HD.o hok;rw[hok] at HW
     clear hok;generalize bs[k].x=x0 at *;generalize bs[k].y=y0 at *;generalize bs[k].z=z0 at *;generalize bs[k].e=e0 at *;generalize bs[k].i=i0 at *;generalize bs[k].r=r0 at *;generalize bs[k].d=d0 at *;go_wp2_with (first
      | (refine ZG 175 HRG.o underlying175 Gl ?_)
      | (go_at_call 137;refine HW.o.mono ?_;rintro o w5 ⟨rfl,hb5⟩))
     go_roundw;case rel=>exact⟨k+1,om,by go_num,HN.o,HB.o.trans (hb5.mono HB.o.size)⟩
     case measure=>simp[intOf];omega
   .have HN:Hid (bs.all yd=true):=jx (by have:=HL.o;omega) hdone;clear hdone;go_wp2;go_ret;exact⟨_,rfl,by rw[HN.o];simp,hb⟩
def jv (w:World) (a:Option Addr) (n cap:Nat) (bs:List R8) (h:aM w a n cap bs) (hn:n<=1048576) :
  Calls Tp 136 #[sL a n cap,.func (.func 137) #[] #[]] w fun o w'=>o = rT (bO (!bs.all yd))/\Bl w w':=by
 have HI:Hid (Calls Tp 176 #[sL a n cap,.func (.func 137) #[] #[]] w fun o w'=>∃ z:Int,o = rT (I J z)/\decide (0<=z) = !bs.all yd/\Bl w w'):=ly w a n cap bs h hn;clear h;go_enter func136,ntmps136;go_wp2_with (go_at_call 176;refine HI.o.mono ?_;rintro o w5 ⟨z,rfl,hz,hb5⟩;have HZ:Hid (decide (0<=z) = !bs.all yd):=hz;clear hz);go_ret;exact⟨aj HZ.o,hb5⟩
end
def cK (o:Ending) (P:Prop):Prop:=∃ b:Bool,o = rT (bO b)/\(b=true↔P)
def hoL (H:Ho) (s:Sl):List Value:=[I J H.c0,I J H.c1,I J H.c2,I J H.c3,sL s.a1 s.n1 s.k1,sL s.a2 s.n2 s.k2,sL s.a3 s.n3 s.k3,sL s.a4 s.n4 s.k4,I J H.lo,I J H.st]
def Gt (H:Ho) (s:Sl):hoV H s = aG (hoL H s).toArray:=rfl
def px (H:Ho) (s:Sl):(Tp.info? 41).map (·.size)=some (hoL H s).length:=xU
def Cw (H:Ho) (s:Sl):(Tp.info? 41).map (·.size)=some (hoL H s).toArray.size:=xU
def oC (H:Ho) (s:Sl):(hoL H s).toArray.all (·.oneCell')=true:=QK (by simp[hoL,Value.oneCell'])
def zFr (e:Bool) (i:Nat) (r:Bool) (d:Int) (n:Nat):Prop:=e=false/\i=0/\r=false/\d=0/\n=0
def gQ (w:World) (e:Bool) (i:Nat) (r:Bool) (d:Int) (a:Option Addr) (n cap:Nat) :
  Calls Tp 112 #[frV e i r d a n cap] w fun o w'=>cK o (zFr e i r d n)/\Bl w w':=by
 have HB:Hid (Bl w (w.alloc (.cells #[bO e,I .u32 (i:Int),bO r,I J d,sL a n cap] 67))):=Zw;cases e
 .by_cases hi:i=0
  .subst hi;cases r
   .by_cases hd:d=0
    .subst hd;go_enter func112,ntmps112;go_wp2;go_ret;refine⟨⟨_,rfl,?_⟩,HB.o⟩;unfold zFr;simp;try omega
    .have hd':(d == 0)=false:=by simpa using hd
     clear hd;go_enter func112,ntmps112;go_wp2;go_ret;refine⟨⟨_,rfl,?_⟩,HB.o⟩;unfold zFr;simp at hd';simp[hd']
   .go_enter func112,ntmps112;go_wp2;go_ret;refine⟨⟨_,rfl,?_⟩,HB.o⟩;unfold zFr;simp
  .have hi':((i:Int) == 0)=false:=by simpa using hi
   clear hi;go_enter func112,ntmps112;go_wp2;go_ret;refine⟨⟨_,rfl,?_⟩,HB.o⟩;unfold zFr;simp at hi';simp[hi']
 .go_enter func112,ntmps112;go_wp2;go_ret;refine⟨⟨_,rfl,?_⟩,HB.o⟩;unfold zFr;simp
set_option maxRecDepth 40000
section
variable {w:World} {b:Nat} {s:Sl}
structure Co where
 p:Int
 ct:Int
 lv:Int
 wk:Bool
 ov:Bool
 ow:Bool
 tx:Bool
 ak:Bool
 rn:Int
 te:Int
 re:Int
 ho:Ho
abbrev coV (C:Co) (s:Sl):Value:=aG #[I J C.p,I J C.ct,I J C.lv,bO C.wk,bO C.ov,bO C.ow,bO C.tx,bO C.ak,I J C.rn,I J C.te,I J C.re,I J C.ho.c0,I J C.ho.c1,I J C.ho.c2,I J C.ho.c3,sL s.a1 s.n1 s.k1,sL s.a2 s.n2 s.k2,sL s.a3 s.n3 s.k3,sL s.a4 s.n4 s.k4,I J C.ho.lo,I J C.ho.st]
def sB (w:World) (C:Co) (s:Sl) (h:aK w C.ho s) (hn:C.ho.le 9223372036854775807) :
  Calls Tp 11 #[coV C s,I J 1048576] w fun o w'=>∃ z:Int,o = rT (I J z)/\Bl w w'/\(z = -1\/∃ m':Nat,z=(m':Int)/\C.ho.le 1048576/\m'<=1048576):=by
 have HC:Hid (∀ X,Bl w X->Calls Tp 24 #[hoV C.ho s,I J 1048576] X fun o w'=>∃ z:Int,o = rT (I J z)/\Bl w w'/\(z = -1\/∃ m':Nat,z=(m':Int)/\C.ho.le 1048576/\m'<=1048576)):=by
  intro X hX;refine (sA X C.ho s (h.below hX) hn 1048576 om).mono ?_;rintro o w' ⟨z,rfl,h1,h2⟩;exact⟨z,rfl,hX.trans (h1.mono hX.size),h2⟩
 clear h hn;obtain⟨p,ct,lv,wk,ov,ow,tx,ak,rn,te,re,⟨c0,c1,c2,c3,fs,bx,ff,qu,lo,st⟩⟩:=C;obtain⟨a1,n1,k1,a2,n2,k2,a3,n3,k3,a4,n4,k4⟩:=s;go_enter func11,ntmps11;go_wp2_with (go_at_call 24;refine (HC.o _ Zw).mono ?_;rintro o w2 ⟨z,rfl,B2,h2⟩;have HB2:Hid (Bl w w2):=B2;clear B2;rcases h2 with rfl | ⟨m',rfl,hle⟩)
 .go_ret;exact⟨_,rfl,HB2.o,.inl rfl⟩
 .go_ret;exact⟨_,rfl,HB2.o,.inr ⟨m',rfl,hle⟩⟩
def rJ (w:World) (C:Co) (s s':Sl) (h:aK w C.ho s) (h':aK w C.ho s') (hn:C.ho.le 1048576) :
  Calls Tp 21 #[coV C s,coV C s'] w fun o w'=>o = rT (bO true)/\Bl w w':=by
 have HC:Hid (∀ X,Bl w X->Calls Tp 40 #[hoV C.ho s,hoV C.ho s'] X fun o w'=>o = rT (bO true)/\Bl w w'):=by
  intro X hX;refine (rI X C.ho s s' (h.below hX) (h'.below hX) hn).mono ?_;rintro o w' ⟨rfl,h1⟩;exact⟨rfl,hX.trans (h1.mono hX.size)⟩
 clear h h' hn;obtain⟨p,ct,lv,wk,ov,ow,tx,ak,rn,te,re,⟨c0,c1,c2,c3,fs,bx,ff,qu,lo,st⟩⟩:=C;obtain⟨a1,n1,k1,a2,n2,k2,a3,n3,k3,a4,n4,k4⟩:=s;obtain⟨b1,m1,l1,b2,m2,l2,b3,m3,l3,b4,m4,l4⟩:=s';have hb:∀ b:Bool,(b != b)=false:=by intro b;simp
 have hi:∀ i:Int,(i != i)=false:=by intro i;simp
 go_enter func21,ntmps21;go_wp2_with (go_at_call 40;refine (HC.o _ (Zw.alloc pQ _)).mono ?_;rintro o w2 ⟨rfl,B2⟩);go_ret;exact⟨rfl,B2⟩
def coL (C:Co) (s:Sl):List Value:=[I J C.p,I J C.ct,I J C.lv,bO C.wk,bO C.ov,bO C.ow,bO C.tx,bO C.ak,I J C.rn,I J C.te,I J C.re,I J C.ho.c0,I J C.ho.c1,I J C.ho.c2,I J C.ho.c3,sL s.a1 s.n1 s.k1,sL s.a2 s.n2 s.k2,sL s.a3 s.n3 s.k3,sL s.a4 s.n4 s.k4,I J C.ho.lo,I J C.ho.st]
def coM (C:Co):List Value:=[I J C.p,I J C.ct,I J C.lv,bO C.wk,bO C.ov,bO C.ow,bO C.tx,bO C.ak,I J C.rn,I J C.te,I J C.re]
def Ac (C:Co) (s:Sl):coV C s = aG (coL C s).toArray:=rfl
def cL (C:Co) (s:Sl):(coL C s).length=21:=rfl
def CM (C:Co) (s:Sl):coL C s=coM C++hoL C.ho s:=rfl
def cO (C:Co) (s:Sl):(coL C s).toArray.all (·.oneCell')=true:=QK (by simp[coL,Value.oneCell'])
def pw:(Tp.info? 43).map (·.size)=some 21:=kr
def cy (C:Co) (s:Sl):(Tp.info? 43).map (·.size)=some (coL C s).length:=pw
def nO (C:Co) (s:Sl):(Tp.info? 43).map (·.size)=some (coL C s).toArray.size:=pw
def Z21:List Value:=[I J 0,I J 0,I J 0,bO false,bO false,bO false,bO false,bO false,I J 0,I J 0,I J 0,I J 0,I J 0,I J 0,I J 0,sL none 0 0,sL none 0 0,sL none 0 0,sL none 0 0,I J 0,I J 0]
def blk.hostAt {C:Co} {T:TypeId} (h:blk w b (coL C s) T):w.rangeAt b 11 (hoL C.ho s):=by
 have h':blk w b (coM C++hoL C.ho s++[]) T:=by rw[Qv,<- CM];exact h
 exact h'.loadAt (coM C) (hoL C.ho s) []
def jT (H:Ho) (s:Sl):(Tp.info? 41).map (·.size)=some (hoL H s).length:=kr
structure ctS (w:World) (b:Nat) (C:Co) (s:Sl) (W:World):Prop where
 p:blk W b (coL C s) 43
 b:Bl w W
def ctS.below {C:Co} {W W':World} (h:ctS w b C s W) (hb:Bl W W'):ctS w b C s W':=⟨h.p.below hb,h.b.trans (hb.mono h.b.size)⟩
def ctS.new (w:World) (C:Co) (s:Sl):ctS w w.heap.size C s (w.alloc (.cells (coL C s).toArray 43)):=⟨blk.new w _ 43,Zw⟩
end
open Option renaming none->nn,some->sQ
open Go renaming World->Wd
def f5 (b:R5) (ao:Option Addr) (m c:Nat):List Value:=[bO b.e,I .u32 (b.i:Int),bO b.r,I J b.d,sL ao m c]
def f8 (b:R8) (ao:Option Addr) (m c:Nat):List Value:=[I J b.x,I J b.y,I J b.z,bO b.e,I .u32 (b.i:Int),bO b.r,I J b.d,sL ao m c]
def MW {R:Type} (f:R->Option Addr->Nat->Nat->List Value) (dt:R->List Nat) (q:Nat) (w0 W:Wd) (g room first:Nat) (L:List R):Prop:=∀ i (h:i<L.length),∃ ao m c,W.rangeAt g ((first+i) % room*q) (f L[i] ao m c)/\iB w0 ao m c (dt L[i])
abbrev cE (w0 W:Wd) (g room first:Nat) (L:List R5):Prop:=MW f5 R5.l 5 w0 W g room first L
abbrev cw (w0 W:Wd) (g room first:Nat) (L:List R8):Prop:=MW f8 R8.l 8 w0 W g room first L
def M4 (W:Wd) (P u:Nat) (a:Option Addr) (n cap:Nat) (count:Nat) (y0:W.cell? ⟨P,u,nn⟩=sQ (sL a n cap)) (y2:W.cell? ⟨P,u+2,nn⟩=sQ (I J (count:Int))) (hc:count<=n) (hn:n<=1048576) (fr:FuncId) (hf:fr=231\/fr=232) :
  Calls Tp fr #[pT (sQ ⟨P,u,nn⟩)] W fun o w'=>o = rT (I J ((n-count:Nat):Int))/\Bl W w':=by
 rcases hf with rfl|rfl;all_goals
  first | go_enter func231,ntmps231 | go_enter func232,ntmps232
  go_wp2;go_region;all_goals
   go_wp2;go_ret;refine⟨au ?_,(bW _ _).drew⟩;omega
def M3 {P:Prop} (h:P):Hid P:=h
def M9 {w:Wd} {Z l:List Value} {T:TypeId} (hl:Z.length=l.length):blk ((w.alloc (.cells Z.toArray T)).setCells w.heap.size 0 l) w.heap.size l T/\Bl w ((w.alloc (.cells Z.toArray T)).setCells w.heap.size 0 l):=by
 refine⟨?_,sW (nR _) 0 l Zw⟩;have:=blk.put [] Z [] l (w:=w.alloc (.cells Z.toArray T)) (b:=w.heap.size) (T:=T) (by simpa using blk.new w Z T) hl;simpa using this
section
variable {R : Type} {f : R -> Option Addr -> Nat -> Nat -> List Value} {dt : R -> List Nat} {q : Nat}
def MW.keep {w0 W W':Wd} {g room first:Nat} {L:List R} (h:MW f dt q w0 W g room first L) (he:W'.heap[g]?=W.heap[g]?):MW f dt q w0 W' g room first L:=by
 intro i hi;obtain⟨ao,m,c,h1,h2⟩:=h i hi;exact⟨ao,m,c,fun j v hv=>(Gj he _).trans (h1 j v hv),h2⟩
def MW.store {w0 W:Wd} {g room first:Nat} {L:List R} (h:MW f dt q w0 W g room first L) (hq:∀ b ao m c,(f b ao m c).length=q) (hf:first<room) (hL:L.length<room) (hr:cu W g (room*q)) (b:R) (ao:Option Addr) (m c:Nat) (hb:iB w0 ao m c (dt b)) :
  MW f dt q w0 (W.setCells g ((first+L.length) % room*q) (f b ao m c)) g room first (L++[b]):=by
 have mul:∀ x y:Nat,x<y->x*q+q<=y*q:=fun x y e=>by rw[<- Nat.succ_mul];exact qC _ e
 have hzz:=mul _ _ (Qr (first+L.length) (Qi (nZ _) hf));intro i hi;rw[qe,qm] at hi;by_cases e:i=L.length
 .subst e;have hge:(L++[b])[L.length]'pQ=b:=by simp
  rw[hge];refine⟨ao,m,c,?_,hb⟩;intro j v hv;have hj:j<(f b ao m c).length:=(List.getElem?_eq_some_iff.1 hv).1;have hj':j<q:=by rw[hq] at hj;exact hj
  rw[aU,aL g _ W _ j hj (hr.cell _ om),<- (List.getElem?_eq_some_iff.1 hv).2]
 .have hi':i<L.length:=om;have hge:(L++[b])[i]'(by simp;omega)=L[i]:=qN hi';rw[hge];obtain⟨ao',m',c',h1,h2⟩:=h i hi';refine⟨ao',m',c',?_,h2⟩;intro j v hv;have hj:j<q:=by have:=(List.getElem?_eq_some_iff.1 hv).1;rw[hq] at this;exact this
  have hne:(first+i) % room≠(first+L.length) % room:=by
   intro e2;have h3:(first+L.length-(first+i)) % room=0:=Nat.sub_mod_eq_zero_of_mod_eq e2.symm;rw[show first+L.length-(first+i)=L.length-i by omega,Qo om] at h3;omega
  rw[aU,rO g _ W _ _ ?_]
  .exact h1 j v hv
  .rw[hq];rcases Nat.lt_or_gt_of_ne hne with h|h
   .left;have:=mul _ _ h;omega
   .right;have:=mul _ _ h;omega
structure itF (f:R->Option Addr->Nat->Nat->List Value) (dt:R->List Nat) (q:Nat) (w0 W:Wd) (P gs:Nat) (a:Option Addr) (n c:Nat) (its:List R):Prop where
 len:n=its.length
 cap:n<=c
 cells:its≠[]->∃ g off,a=sQ ⟨g,off,nn⟩/\g≠P/\g≠gs/\g<W.heap.size/\∀ j (h:j<its.length),∃ ao m c',W.rangeAt g (off+j*q) (f its[j] ao m c')/\iB w0 ao m c' (dt its[j])
structure rgF (u gs room first:Nat) (l:Nat->List Value):Prop where
 a:∀ C,(l C)[u]?=sQ (sL (sQ ⟨gs,0,nn⟩) room room)
 b:∀ C,(l C)[u+1]?=sQ (I J (first:Int))
 c:∀ C:Nat,(l C)[u+2]?=sQ (I J (C:Int))
 s:∀ C C':Nat,(l C).set (u+2) (I J (C':Int))=l C'
structure ptF (f:R->Option Addr->Nat->Nat->List Value) (dt:R->List Nat) (q:Nat) (T:TypeId) (l:Nat->List Value) (w0 W wr:Wd) (P gs room first:Nat) (M:List R) (C:Nat):Prop where
 p:blk wr P (l C) T
 z:cu wr gs (room*q)
 r:MW f dt q w0 wr gs room first M
 k:∀ b,b≠P->b≠gs->b<W.heap.size->wr.heap[b]?=W.heap[b]?
 s:W.heap.size<=wr.heap.size
 o:wr.os=W.os/\wr.tape=W.tape/\wr.output=W.output
variable {T : TypeId} {l : Nat -> List Value} {w0 W wr wr' : Wd} {P gs room first : Nat} {M : List R} {C : Nat}
def ptF.below (h:ptF f dt q T l w0 W wr P gs room first M C) (hg:gs<W.heap.size) (hb:Bl wr wr'):ptF f dt q T l w0 W wr' P gs room first M C:=
 ⟨h.p.below hb,h.z.below hb (nL hg h.s),h.r.keep (hb.block _ (nL hg h.s)),fun b h1 h2 h3=>(hb.block _ (nL h3 h.s)).trans (h.k b h1 h2 h3),nT h.s hb.size,⟨hb.os.trans h.o.1,hb.tape.trans h.o.2.1,hb.output.trans h.o.2.2⟩⟩
def ptF.store (h:ptF f dt q T l w0 W wr P gs room first M C) (hq:∀ b ao m c,(f b ao m c).length=q) (hg:gs≠P) (hf:first<room) (hL:M.length<room) (b:R) (ao:Option Addr) (m c:Nat) (hb:iB w0 ao m c (dt b)) :
  ptF f dt q T l w0 W (wr.setCells gs ((first+M.length) % room*q) (f b ao m c)) P gs room first (M++[b]) C:=by
 have hzz:(first+M.length) % room*q+(f b ao m c).length<=room*q:=by
  rw[hq,<- Nat.succ_mul];exact qC _ (Qr _ om)
 refine⟨h.p.other (fun e=>hg e.symm) _ _,by rw[aU];exact h.z.put _ _ hzz,h.r.store hq hf hL h.z b ao m c hb,fun x h1 h2 h3=>(sO gs x h2 _ _ _).trans (h.k x h1 h2 h3),by rw[sZ];exact h.s,?_⟩;have hbel:=sW (B:=0) (nZ gs) ((first+M.length) % room*q) (f b ao m c) (bW 0 wr);exact⟨hbel.os.trans h.o.1,hbel.tape.trans h.o.2.1,hbel.output.trans h.o.2.2⟩
def ptF.count (h:ptF f dt q T l w0 W wr P gs room first M C) {u:Nat} (hu:rgF u gs room first l) (hg:gs≠P) (C':Nat):ptF f dt q T l w0 W (wr.setCell ⟨P,u+2,nn⟩ (I J (C':Int))) P gs room first M C':=by
 have e:∀ b,b≠P->(wr.setCell ⟨P,u+2,nn⟩ (I J (C':Int))).heap[b]?=wr.heap[b]?:=fun b hb=>QA _ _ _ _ (by exact hb);have hbel:Below 0 wr (wr.setCell ⟨P,u+2,nn⟩ (I J (C':Int))):=(bW 0 wr).setCell (nZ _) _;exact⟨by rw[<- hu.s C C'];exact h.p.set (u+2) _,h.z.up (e gs hg),h.r.keep (e gs hg),fun x h1 h2 h3=>(e x h1).trans (h.k x h1 h2 h3),nT h.s hbel.size,⟨hbel.os.trans h.o.1,hbel.tape.trans h.o.2.1,hbel.output.trans h.o.2.2⟩⟩
end
def M5 {R:Type} (f:R->Option Addr->Nat->Nat->List Value) (dt:R->List Nat) (q:Nat) (ty:TypeId) (fn fr:FuncId) (hK:fn=209/\fr=231/\ty=67/\q=5\/fn=210/\fr=232/\ty=175/\q=8) (hq:∀ b ao m c,(f b ao m c).length=q) (ho:∀ b ao m c,(f b ao m c).toArray.all (·.oneCell')=true)
  (T:TypeId) (l:Nat->List Value) (u:Nat) (w0 W:Wd) (P gs room first:Nat) (L its:List R) (a:Option Addr) (n c:Nat) (hu:rgF u gs room first l)
  (hP:blk W P (l L.length) T) (hg:gs≠P) (hrow:cu W gs (room*q)) (hgl:gs<W.heap.size) (hring:MW f dt q w0 W gs room first L)
  (hf:first<room) (hL:L.length<=room) (hroom:room<=1000) (hits:itF f dt q w0 W P gs a n c its) (hn:n<=1048576) (t:Nat) (ht:t=min (room-L.length) n) :
  Calls Tp fn #[pT (sQ ⟨P,u,nn⟩),sL a n c] W fun o w'=>o = rT (I J (t:Int))/\ptF f dt q T l w0 W w' P gs room first (L++its.take t) (L.length+t):=by
 have HF:Hid (Calls Tp fr #[pT (sQ ⟨P,u,nn⟩)] W fun o w'=>o = rT (I J ((room-L.length:Nat):Int))/\Bl W w'):=M4 W P u _ room room L.length (hP.cell u _ (hu.a _)) (hP.cell (u+2) _ (hu.c _)) hL om fr (by rcases hK with h | h;exact qr h.2.1;exact qx h.2.1);have HP0:Hid (ptF f dt q T l w0 W W P gs room first L L.length):=⟨hP,hrow,hring,fun _ _ _ _=>rfl,nR _,⟨rfl,rfl,rfl⟩⟩
 have hcp:=hits.cap;have hmin:min ((room-L.length:Nat):Int) (n:Int)=(t:Int):=om;have hmax:max (t:Int) 0=(t:Int):=om;have htn:t<=n:=om;have HTR:Hid (L.length+t<=room):=by show _<=_;omega
 have HIT:Hid (itF f dt q w0 W P gs a n c its):=hits;have HR:Hid (room<=1000/\first<room):=⟨hroom,hf⟩
 have HG:Hid (gs≠P/\gs<W.heap.size):=⟨hg,hgl⟩
 have HU:Hid (rgF u gs room first l):=hu;have HQ:Hid ((∀ b ao m c,(f b ao m c).length=q)/\∀ b ao m c,(f b ao m c).toArray.all (·.oneCell')=true):=⟨hq,ho⟩
 clear hP hrow hgl hring hits ht hroom hL hg hu hq ho;generalize hfr:((room-L.length:Nat):Int)=fr0 at *;clear hfr;by_cases hnil:its=[]
 .have hn0:n=0:=by have:=HIT.o.len;rw[hnil] at this;simpa using this
  have ht0:t=0:=om;subst ht0;subst hn0;subst hnil;clear HIT;have hmin0:min fr0 0=0:=by simpa using hmin
  clear hmin hmax;rcases hK with⟨rfl,rfl,rfl,rfl⟩ | ⟨rfl,rfl,rfl,rfl⟩ <;> cases a
  all_goals
   first | go_enter func209,ntmps209 | go_enter func210,ntmps210
   go_wp2_with fail;refine HF.o.mono ?_;rintro o w1 ⟨rfl,hb1⟩;have H1:=HP0.o.below HG.o.2 hb1;clear hb1;go_wp2_with fail;go_loopw [17] (fun i wr=>i = I J 0/\wr=w1) (fun _ _=>0);case atStart=>exact⟨rfl,rfl⟩
   case round=>
    obtain⟨rfl,rfl⟩:=hrel;go_wp2;go_ret;refine⟨rfl,?_⟩;simpa using H1
 .obtain⟨g,off,rfl,hgP,hggs,hglt,hc⟩:=HIT.o.cells hnil;have HC:Hid (∀ j (h:j<its.length),∃ ao m c',W.rangeAt g (off+j*q) (f its[j] ao m c')/\iB w0 ao m c' (dt its[j])):=hc;have HGG:Hid (g≠P/\g≠gs/\g<W.heap.size):=⟨hgP,hggs,hglt⟩
  have HSZ:Hid ((Tp.info? ty).map (·.size)=sQ q):=by rcases hK with⟨_,_,rfl,rfl⟩ | ⟨_,_,rfl,rfl⟩;exact jc;exact Gl
  clear hc hgP hggs hglt;rcases hK with⟨rfl,rfl,rfl,rfl⟩|⟨rfl,rfl,rfl,rfl⟩
  all_goals
   first | go_enter func209,ntmps209 | go_enter func210,ntmps210
   go_wp2_with fail;refine HF.o.mono ?_;rintro o w1 ⟨rfl,hb1⟩;have H1:=HP0.o.below HG.o.2 hb1;clear hb1 HF;go_wp2_with fail;clear hmin hmax;go_loopw [17] (fun i wr=>∃ k:Nat,k<=t/\i = I J (k:Int)/\ptF f dt _ T l w0 W wr P gs room first (L++its.take k) (L.length+k)) (fun i _=>t-(intOf i).toNat);case atStart=>exact⟨0,nZ _,rfl,by simpa using H1⟩
   case round=>
    clear H1;obtain⟨k,hk,rfl,hp⟩:=hrel;have HPT:=M3 hp;clear hp;by_cases hlt:k<t
    .have hkl:k<its.length:=by have:=HIT.o.len;omega
     obtain⟨ao,m,c',hx1,hx2⟩:=HC.o k hkl;have hML:(L++its.take k).length=L.length+k:=by rw[qe,qj];omega
     have HRG:=M3 (fun j v hv=>(Gj (HPT.o.k g HGG.o.1 HGG.o.2.1 HGG.o.2.2) _).trans (hx1 j v hv):wr.rangeAt g _ (f its[k] ao m c'))
     have HST:=M3 (fun (X:Wd) C (hX:ptF f dt _ T l w0 W X P gs room first (L++its.take k) C)=>by
      have:=hX.store HQ.o.1 HG.o.1 HR.o.2 (by rw[hML];have:=HTR.o;omega) its[k] ao m c' hx2
      rw[hML,qp,<- qg hkl] at this
      exact this)
     have HLN:=HQ.o.1 its[k] ao m c';have HON:=M3 (HQ.o.2 its[k] ao m c');have hmod:Int.tmod ((first:Int)+((L.length+k:Nat):Int)) (room:Int)=(((first+(L.length+k)) % room:Nat):Int):=by
      rw[<- Int.natCast_add];exact Int.ofNat_tmod _ _
     have hzr:(first+(L.length+k)) % room<room:=Qr _ (by have:=HR.o;omega);have hroom0:¬ (room:Int)=0:=by have:=HR.o;omega
     have HC1:Hid (L.length+k+1=L.length+(k+1)):=by show _=_;omega
     have hr1:=HR.o.1;have hf1:=HR.o.2;have hC2:=HTR.o;have hCr:L.length+k<=1000:=om;clear hx1 hx2 hML hC2;generalize f its[k] ao m c'=fl at *;have HLL:=M3 HLN;clear HLN;generalize hCC:L.length+k=C at *;clear hCC;generalize hZZ:(first+C) % room=Z at *;clear hZZ;obtain⟨PB,hPB⟩ : ∃ PB,PB=wr.heap.size:=⟨_,rfl⟩
     have HPG:Hid (PB≠gs):=by show _≠_;have:=HG.o.2;have:=HPT.o.s;omega
     go_wp2_with (first
      | (refine Qz (P:=Tp) rfl _ _ rfl g _ rfl fl _ HRG.o (by first | exact underlying67 | exact underlying175) rfl (by rw[HLL.o];exact HSZ.o) ?_)
      | (refine QD (P:=Tp) rfl _ _ _ rfl wr.heap.size 0 fl.toArray rfl rfl ((blk.new wr _ _).there 0 _ (by rw[qR,HLL.o];decide)) (by rw[qR,HLL.o];exact HSZ.o) HON.o ?_;generalize hW3:World.setCells (wr.alloc _) wr.heap.size 0 _=W3;have HP3:Hid (blk W3 PB fl _/\Bl wr W3):=(by rw[<- hW3,hPB];exact M9 (by rw[HLL.o];rfl));clear hW3))
     have HT3:=M3 (HPT.o.below HG.o.2 HP3.o.2);rw[<- hPB];clear HPT HRG hPB;have HZT:Hid (World.there (World.drew W3) gs _ _):=HT3.o.z.there (Z*_) _ (by rw[<- Nat.succ_mul];exact qC _ hzr);refine QJ (S:=(fun X=>X.cell? ⟨P,u,nn⟩=sQ (sL (sQ ⟨gs,0,nn⟩) room room)/\X.cell? ⟨P,u+1,nn⟩=sQ (I J (first:Int))/\X.cell? ⟨P,u+2,nn⟩=sQ (I J (C:Int))/\X.rangeAt PB 0 fl)) kr ?_;have hS:(World.drew W3).cell? ⟨P,u,nn⟩=sQ (sL (sQ ⟨gs,0,nn⟩) room room)/\(World.drew W3).cell? ⟨P,u+1,nn⟩=sQ (I J (first:Int))/\(World.drew W3).cell? ⟨P,u+2,nn⟩=sQ (I J (C:Int))/\(World.drew W3).rangeAt PB 0 fl:=⟨HT3.o.p.cell u _ (HU.o.a _),HT3.o.p.cell _ _ (HU.o.b _),HT3.o.p.cell _ _ (HU.o.c _),HP3.o.1.load⟩
     refine tk 0 ?_;refine tk 1 ?_;refine tk 2 ?_;refine tk 3 ?_;refine tk 4 ?_;refine tk 5 ?_;refine tk 6 ?_;refine tk 7 ?_;refine tk 8 ?_;refine tk 9 ?_;refine tk 10 ?_;refine tk 11 ?_;refine tk 12 ?_ (v:=I J ((first:Int)+(C:Int))) (hy:=fun X hX=>by (clear hS;go_simp;rw[QR];omega));refine tk 13 ?_;refine tk 14 ?_;refine tk 15 ?_;refine tk 16 ?_;refine tk 17 ?_;refine tk 18 ?_ (v:=I J (Z:Int)) (hy:=fun X hX=>by (clear hS;go_simp;omega));refine wU 19 (aG fl.toArray) rfl (QL (by rfl) _ (.tmp 7) rfl PB 0 rfl fl _ (fun X h=>h.2.2.2) (by first | exact underlying67 | exact underlying175) rfl (by rw[HLL.o];exact HSZ.o)) hS ?_;simp only[aZ];refine tk 20 ?_;refine al 21 fun K hK=>?_;rw[qc (by rfl)];refine QT _ (.tmp 41) (.tmp 40) rfl gs _ fl.toArray rfl rfl (by rw[qR,HLL.o];exact HZT.o) (by rw[qR,HLL.o];exact HSZ.o) HON.o ?_;simp only[Act.put,aD,aE,aF];have HT4:=M3 (HST.o _ _ (HT3.o.below HG.o.2 (bW _ _).drew));refine hK.out _ (World.setCells (World.drew W3) gs _ fl) ⟨HT4.o.p.cell _ _ (HU.o.a _),HT4.o.p.cell _ _ (HU.o.b _),HT4.o.p.cell _ _ (HU.o.c _),((HP3.o.1.below (bW _ _).drew).other HPG.o _ _).load⟩ (fun _=>?_);clear hS hK K;refine QH kr ?_ _;clear hmod;generalize hW5:World.setCells (World.drew W3) gs _ _=w5;have HT5:Hid (ptF f dt _ T l w0 W w5 P gs room first (L++its.take (k+1)) C):=hW5 ▸ HT4.o;clear hW5 HT4;have z2:=HT5.o.p.cell _ _ (HU.o.c _);have z2f:=HT5.o.p.free (u+2);go_wp2;go_roundw;case rel=>
      refine⟨k+1,om,by go_num,?_⟩;rw[<- HC1.o];exact HT5.o.count HU.o HG.o.1 (C+1)
     case measure=>simp[intOf];omega
    .have hkt:k=t:=om;subst hkt;go_wp2;go_ret;exact⟨rfl,HPT.o⟩
def sgL:List Value:=[I J 0,I J 0,bO false,bO false,I J 0,bO false,I .u32 0,bO false,I J 0,sL none 0 0]
def mcH (P:Nat) (C:Co):List Value:=[pT (some ⟨P,0,none⟩),I J C.te,I J C.re,I J C.p,I J C.ct,I J C.lv,bO C.wk,bO C.ov,bO C.ow,bO C.tx,bO C.ak,I J C.rn]
def mcL (P:Nat) (C:Co):List Value:=mcH P C++(sgL++prL)
def oc {R:Nat->World->Prop} (hR:∀ P W W',R P W->Bl W W'->R P W') (w:World) (C:Co) (s:Sl) (ho:∀ W,Bl w W->Calls Tp 84 #[aG (hoL C.ho s).toArray] W fun o w'=>∃ P,o = rT (pT (some ⟨P,0,none⟩))/\R P w'/\Bl W w') :
  Calls Tp 37 #[aG (coL C s).toArray] w fun o w'=>∃ P w5,o = rT (pT (some ⟨w5.heap.size,0,none⟩))/\w'=w5.alloc (.cells (mcL P C).toArray 147)/\R P w5/\Bl w w5:=by
 have HO:Hid (∀ W,Bl w W->Calls Tp 84 #[aG (hoL C.ho s).toArray] W fun o w'=>∃ P,o = rT (pT (some ⟨P,0,none⟩))/\R P w'/\Bl W w'):=ho;have HR:Hid (∀ P W W',R P W->Bl W W'->R P W'):=hR;have HP:Hid (∀ W,Calls Tp 85 #[] W fun o w'=>o = rT (aG prL.toArray)/\Bl W w'):=fun W=>iN W;have H0:Hid (ctS w w.heap.size C s (w.alloc (.cells (coL C s).toArray 43))):=ctS.new w C s;clear ho hR;go_enter func37,ntmps37;go_wp2_with fail;refine QJ (S:=fun X=>ctS w w.heap.size C s X) kr ?_;have hS:ctS w w.heap.size C s (World.drew (w.alloc (.cells (coL C s).toArray 43))):=H0.o.below (bW _ _).drew;clear H0;change wpAnyH Tp _ _ _ _ _ _ _ (World.drew (w.alloc (.cells (coL C s).toArray 43)));generalize World.drew (w.alloc (.cells (coL C s).toArray 43))=v0 at *;refine tk 0 ?_;refine wU 1 (aG (hoL C.ho s).toArray) rfl (QL (by rfl) 41 (.tmp 3) rfl w.heap.size 11 rfl (hoL C.ho s) _ (fun X h=>h.p.hostAt) underlying41 rfl (jT C.ho s)) hS ?_;simp only[aZ];refine tk 3 ?_;refine tk 4 ?_ (hy:=fun W hSw=>by (have y:=hSw.p.cell 9 (I J C.te) rfl;go_simp;try rfl));refine tk 5 ?_;refine tk 6 ?_ (hy:=fun W hSw=>by (have y:=hSw.p.cell 10 (I J C.re) rfl;go_simp;try rfl));refine tk 8 ?_;refine tk 9 ?_ (hy:=fun W hSw=>by (have y:=hSw.p.cell 0 (I J C.p) rfl;go_simp;try rfl));refine tk 10 ?_;refine tk 11 ?_ (hy:=fun W hSw=>by (have y:=hSw.p.cell 1 (I J C.ct) rfl;go_simp;try rfl));refine tk 12 ?_;refine tk 13 ?_ (hy:=fun W hSw=>by (have y:=hSw.p.cell 2 (I J C.lv) rfl;go_simp;try rfl));refine tk 14 ?_;refine tk 15 ?_ (hy:=fun W hSw=>by (have y:=hSw.p.cell 3 (bO C.wk) rfl;go_simp;try rfl));refine tk 16 ?_;refine tk 17 ?_ (hy:=fun W hSw=>by (have y:=hSw.p.cell 4 (bO C.ov) rfl;go_simp;try rfl));refine tk 18 ?_;refine tk 19 ?_ (hy:=fun W hSw=>by (have y:=hSw.p.cell 5 (bO C.ow) rfl;go_simp;try rfl));refine tk 20 ?_;refine tk 21 ?_ (hy:=fun W hSw=>by (have y:=hSw.p.cell 6 (bO C.tx) rfl;go_simp;try rfl));refine tk 22 ?_;refine tk 23 ?_ (hy:=fun W hSw=>by (have y:=hSw.p.cell 7 (bO C.ak) rfl;go_simp;try rfl));refine tk 24 ?_;refine tk 25 ?_ (hy:=fun W hSw=>by (have y:=hSw.p.cell 8 (I J C.rn) rfl;go_simp;try rfl));refine tk 26 ?_;refine al 2 fun K2 hK2=>?_;go_simp;refine (HO.o _ hS.b).mono ?_;rintro o w2 ⟨P,rfl,hr,hb⟩;have hS2:=hS.below hb;have HR2:Hid (R P w2):=hr;clear hr hb;go_wp2_with fail;refine hK2.out _ _ hS2 (fun hS3=>?_);clear hK2 K2 hS2 hS;have hS:=hS3;clear hS3;refine tk 7 ?_;refine al 27 fun K2 hK2=>?_;go_simp;refine (HP.o _).mono ?_;rintro o w3 ⟨rfl,hb⟩;have hS2:=hS.below hb;have HR3:Hid (R P w3):=HR.o _ _ _ HR2.o hb;clear hb HR2;go_wp2_with fail;refine hK2.out _ _ hS2 (fun hS3=>?_);clear hK2 K2 hS2 hS;have hS:=hS3;clear hS3;refine tk 28 (v:=aG (mcL P C).toArray) ?_ (hy:=fun W hSw=>by (simp only[prL,mcL,mcH,sgL,List.cons_append,List.nil_append];go_simp;try rfl));refine al 29 fun K2 hK2=>?_;go_simp;have hS2:ctS w w.heap.size C s (w3.alloc (.cells (mcL P C).toArray 147)):=hS.below Zw;have HB3:Hid (Bl w w3):=hS.b;refine hK2.out _ _ hS2 (fun hS3=>?_);clear hK2 K2 hS2 hS;have hS:=hS3;clear hS3;refine tk 30 ?_;refine QH kr ?_ _;go_wp2_with fail;go_ret;exact⟨P,w3,rfl,rfl,HR3.o,HB3.o⟩
structure okM (C:Co):Prop where
 p:0<=C.p/\C.p<=7
 te:0<=C.te/\C.te<=256
 re:0<=C.re/\C.re<=255
 of:C.p=7↔C.te=256
 ct:rLo C.p<=C.ct/\C.ct<=rHi C.p
 lv:0<=C.lv/\C.lv<=1
 l1:C.lv=1->C.p=2/\C.wk=true/\0<C.ct
 wk:C.wk=true->C.p=2/\C.ov=false
 ov:C.ov=true->C.p=2\/C.p=3\/C.p=4
 ow:C.ow=true->C.wk=true/\C.tx=true
 tx:C.tx=true->C.p≠7/\C.p≠0
 t6:C.p=6->C.tx=true
 ak:C.ak=true->C.p=7
 rn:0<=C.rn/\C.rn<128
 na:C.ak=false->C.rn=0/\(C.p=7->C.ct=0)
end Go.Proofs.YtgfolecanghhhaaGreat
