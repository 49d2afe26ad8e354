import Derived.Test.YtbbffcolnddcdaaGreatDoorK04
import Derived.Deep.RegionHeld3
import Derived.Test.YtbbffcolnddcdaaGreatDoorProg
import Derived.WalkKit
import Derived.WalkSpells
import Derived.WalkLawsBesides
import Derived.Deep.QuietTactic
import Derived.BigQuiet
import Derived.Laws.BitsAllLaws
import Derived.Below
namespace Go.Proofs.YtbbffcolnddcdaaGreatDoor
open Go.Proofs.Tryz
set_option linter.all false
open Option renaming none->nn,some->sQ
set_option maxRecDepth 20000
open Go.RowKit
set_option maxHeartbeats 16000000
open Go.Value renaming int->I,slice->sL,bool->bO,pointer->pT,agg->aG
open Go.IntKind renaming i64->J,u32->Zk
open Go.Ending renaming returned->rT
open Go.Proofs.Tryz renaming prog->Tp
def jF(W W':World)(a b A B:Nat)(d:Bool)(e:Int)(gk:Int)(h:W.cell? ⟨a,A,nn⟩=sQ (bO d)/\W.cell? ⟨a,A+1,nn⟩=sQ (I Zk e)/\W.cell? ⟨a,A+2,nn⟩=sQ (I Zk gk)/\W.cell? ⟨b,B,nn⟩=sQ (bO d)/\W.cell? ⟨b,B+1,nn⟩=sQ (I Zk e)/\W.cell? ⟨b,B+2,nn⟩=sQ (I Zk gk)/\a<W.heap.size/\b<W.heap.size)(c:Bl W W'):(fun W=>W.cell? ⟨a,A,nn⟩=sQ (bO d)/\W.cell? ⟨a,A+1,nn⟩=sQ (I Zk e)/\W.cell? ⟨a,A+2,nn⟩=sQ (I Zk gk)/\W.cell? ⟨b,B,nn⟩=sQ (bO d)/\W.cell? ⟨b,B+1,nn⟩=sQ (I Zk e)/\W.cell? ⟨b,B+2,nn⟩=sQ (I Zk gk)/\a<W.heap.size/\b<W.heap.size) W':=by
 obtain⟨g,a1,a2,b0,i,j,f,s2⟩:=h;exact⟨(c.cell (by exact f)).trans g,(c.cell (by exact f)).trans a1,(c.cell (by exact f)).trans a2,(c.cell (by exact s2)).trans b0,(c.cell (by exact s2)).trans i,(c.cell (by exact s2)).trans j,nL f c.size,nL s2 c.size⟩
def mr(w:World)(a1 a2:Option Addr)(n1 c1 n2 c2:Nat)(a:List R3)(h1:bB w a1 n1 c1 a)(f:bB w a2 n2 c2 a)(P:n1<=1048576):ce 142 #[sL a1 n1 c1,sL a2 n2 c2] w fun o w'=>o=rT (bO true)/\Bl w w':=by
 have p:=h1.len;have n:=f.len;by_cases t:a=[]
 .subst t;have A:n1=0:=p;have B:n2=0:=n;subst A B;clear p n h1 f;go_enter func142,ntmps142;go_wp2;go_loopw [5] (fun i wr=>i=I J 0/\wr=w) (fun _ _=>0);case atStart=>exact⟨rfl,rfl⟩
  case round=>
   obtain⟨rfl,rfl⟩:=hrel;go_wp2;go_ret;exact⟨rfl,bW _ _⟩
 .obtain⟨g1,o1,rfl,k1⟩:=h1.cells t;obtain⟨c,d,rfl,k2⟩:=f.cells t;have K:n2=n1:=om;subst K;have y:=hI n;have v:=hI k1;have x:=hI k2;have L:=h1.cap;have M:=f.cap;clear p n h1 f k1 k2;go_enter func142,ntmps142;go_wp2;go_loopw [5] (fun i wr=>∃k:Nat,k<=n2/\i=I J k/\Bl w wr) (fun i _=>n2-(intOf i).toNat);case atStart=>exact⟨0,nZ _,rfl,bW _ _⟩
  case round=>
   obtain⟨k,N,rfl,b⟩:=hrel;by_cases O:k<n2
   .have hkl:k<a.length:=by have:=y.o;omega
    have g:=v.o k hkl;have h:=x.o k hkl;have j:=Qn w _ g.c0;have l:=Qn w _ h.c0;have G:wr.cell? ⟨g1,o1+k*3,nn⟩=sQ (bO a[k].e)/\wr.cell? ⟨g1,o1+k*3+1,nn⟩=sQ (I Zk a[k].m)/\wr.cell? ⟨g1,o1+k*3+2,nn⟩=sQ (I Zk a[k].k)/\wr.cell? ⟨c,d+k*3,nn⟩=sQ (bO a[k].e)/\wr.cell? ⟨c,d+k*3+1,nn⟩=sQ (I Zk a[k].m)/\wr.cell? ⟨c,d+k*3+2,nn⟩=sQ (I Zk a[k].k)/\g1<wr.heap.size/\c<wr.heap.size:=⟨(b.cell (by exact j)).trans g.c0,(b.cell (by exact j)).trans g.c1,(b.cell (by exact j)).trans g.c2,(b.cell (by exact l)).trans h.c0,(b.cell (by exact l)).trans h.c1,(b.cell (by exact l)).trans h.c2,nL j b.size,nL l b.size⟩
    have u:=hI b;clear b g h j l;generalize C:a[k].e=r at*;generalize E:a[k].m=s at*;generalize D:a[k].k=gk at*;clear C E D;go_wp2;go_region_held3 (fun W=>W.cell? ⟨g1,o1+k*3,nn⟩=sQ (bO r)/\W.cell? ⟨g1,o1+k*3+1,nn⟩=sQ (I Zk s)/\W.cell? ⟨g1,o1+k*3+2,nn⟩=sQ (I Zk gk)/\W.cell? ⟨c,d+k*3,nn⟩=sQ (bO r)/\W.cell? ⟨c,d+k*3+1,nn⟩=sQ (I Zk s)/\W.cell? ⟨c,d+k*3+2,nn⟩=sQ (I Zk gk)/\g1<W.heap.size/\c<W.heap.size) (first|exact jF _ _ _ _ _ _ _ _ _ G (bW _ _).drew|exact jF _ _ _ _ _ _ _ _ _ (by assumption) (by assumption)) (first|(go_at_call 200;refine(ny _ r s gk).mono ?_;rintro o Q ⟨rfl,H⟩))
    go_wp2;go_roundw;case rel=>exact⟨k+1,om,by go_num,u.o.trans (((bW _ _).drew.trans H).mono u.o.size)⟩
    case measure=>simp[intOf];omega
   .go_wp2;go_ret;exact⟨rfl,b⟩
def kI(W W':World)(b c A B:Nat)(f:Bool)(g:Nat)(i:Bool)(e:Int)(l n:Option Addr)(j p k r:Nat)(L:List Nat)(h:W.cell? ⟨b,A,nn⟩=sQ (bO f)/\W.cell? ⟨b,A+1,nn⟩=sQ (I Zk (g:Int))/\W.cell? ⟨b,A+2,nn⟩=sQ (bO i)/\W.cell? ⟨b,A+3,nn⟩=sQ (I J e)/\W.cell? ⟨b,A+4,nn⟩=sQ (sL l j p)/\W.cell? ⟨c,B,nn⟩=sQ (bO f)/\W.cell? ⟨c,B+1,nn⟩=sQ (I Zk (g:Int))/\W.cell? ⟨c,B+2,nn⟩=sQ (bO i)/\W.cell? ⟨c,B+3,nn⟩=sQ (I J e)/\W.cell? ⟨c,B+4,nn⟩=sQ (sL n k r)/\iB W l j p L/\iB W n k r L/\b<W.heap.size/\c<W.heap.size)(a:Bl W W'):(fun W=>W.cell? ⟨b,A,nn⟩=sQ (bO f)/\W.cell? ⟨b,A+1,nn⟩=sQ (I Zk (g:Int))/\W.cell? ⟨b,A+2,nn⟩=sQ (bO i)/\W.cell? ⟨b,A+3,nn⟩=sQ (I J e)/\W.cell? ⟨b,A+4,nn⟩=sQ (sL l j p)/\W.cell? ⟨c,B,nn⟩=sQ (bO f)/\W.cell? ⟨c,B+1,nn⟩=sQ (I Zk (g:Int))/\W.cell? ⟨c,B+2,nn⟩=sQ (bO i)/\W.cell? ⟨c,B+3,nn⟩=sQ (I J e)/\W.cell? ⟨c,B+4,nn⟩=sQ (sL n k r)/\iB W l j p L/\iB W n k r L/\b<W.heap.size/\c<W.heap.size) W':=by
 obtain⟨s,a1,a2,a3,a4,b0,t,u,v,w,x,y,d,s2⟩:=h;exact⟨(a.cell (by exact d)).trans s,(a.cell (by exact d)).trans a1,(a.cell (by exact d)).trans a2,(a.cell (by exact d)).trans a3,(a.cell (by exact d)).trans a4,(a.cell (by exact s2)).trans b0,(a.cell (by exact s2)).trans t,(a.cell (by exact s2)).trans u,(a.cell (by exact s2)).trans v,(a.cell (by exact s2)).trans w,x.below a,y.below a,nL d a.size,nL s2 a.size⟩
def jE{W:World}{g1 g2 A B:Nat}{ge:Bool}{gi:Nat}{gr:Bool}{gd:Int}{p1 p2:Option Addr}{m1 q1 m2 q2:Nat}{L:List Nat}(h:W.cell? ⟨g1,A,nn⟩=sQ (bO ge)/\W.cell? ⟨g1,A+1,nn⟩=sQ (I Zk (gi:Int))/\W.cell? ⟨g1,A+2,nn⟩=sQ (bO gr)/\W.cell? ⟨g1,A+3,nn⟩=sQ (I J gd)/\W.cell? ⟨g1,A+4,nn⟩=sQ (sL p1 m1 q1)/\W.cell? ⟨g2,B,nn⟩=sQ (bO ge)/\W.cell? ⟨g2,B+1,nn⟩=sQ (I Zk (gi:Int))/\W.cell? ⟨g2,B+2,nn⟩=sQ (bO gr)/\W.cell? ⟨g2,B+3,nn⟩=sQ (I J gd)/\W.cell? ⟨g2,B+4,nn⟩=sQ (sL p2 m2 q2)/\iB W p1 m1 q1 L/\iB W p2 m2 q2 L/\g1<W.heap.size/\g2<W.heap.size):iB W p1 m1 q1 L/\iB W p2 m2 q2 L:=⟨h.2.2.2.2.2.2.2.2.2.2.1,h.2.2.2.2.2.2.2.2.2.2.2.1⟩
def nv(w:World)(a1 a2:Option Addr)(n1 c1 n2 c2:Nat)(a:List R5)(h1:cn w a1 n1 c1 a)(t:cn w a2 n2 c2 a)(hn:n1<=1048576)(hd:∀j(a5:j<a.length),a[j].l.length<=1048576):ce 144 #[sL a1 n1 c1,sL a2 n2 c2] w fun o w'=>o=rT (bO true)/\Bl w w':=by
 have C:=h1.len;have B:=t.len;by_cases K:a=[]
 .subst K;have R:n1=0:=C;have S:n2=0:=B;subst R S;clear C B h1 t hd;go_enter func144,ntmps144;go_wp2;go_loopw [5] (fun i wr=>i=I J 0/\wr=w) (fun _ _=>0);case atStart=>exact⟨rfl,rfl⟩
  case round=>
   obtain⟨rfl,rfl⟩:=hrel;go_wp2;go_ret;exact⟨rfl,bW _ _⟩
 .obtain⟨g1,o1,rfl,k1⟩:=h1.cells K;obtain⟨c,f,rfl,k2⟩:=t.cells K;have a4:n2=n1:=om;subst a4;have Q:=hI B;have O:=hI k1;have P:=hI k2;have a6:=h1.cap;have a7:=t.cap;have N:=hI hd;clear hd;clear C B h1 t k1 k2;go_enter func144,ntmps144;go_wp2;go_loopw [5] (fun i wr=>∃k:Nat,k<=n2/\i=I J k/\Bl w wr) (fun i _=>n2-(intOf i).toNat);case atStart=>exact⟨0,nZ _,rfl,bW _ _⟩
  case round=>
   obtain⟨k,hk,rfl,b⟩:=hrel;by_cases a8:k<n2
   .have hkl:k<a.length:=by have:=Q.o;omega
    obtain⟨v,s,y,g⟩:=O.o k hkl;obtain⟨x,u,A,h⟩:=P.o k hkl;have n:=Qn w _ g.c0;have p:=Qn w _ h.c0;have hm:s<=1048576:=by have:=N.o k hkl;have:=g.dat.len;omega
    have a0:wr.cell? ⟨g1,o1+k*5,nn⟩=sQ (bO a[k].e)/\wr.cell? ⟨g1,o1+k*5+1,nn⟩=sQ (I Zk (a[k].i:Int))/\wr.cell? ⟨g1,o1+k*5+2,nn⟩=sQ (bO a[k].r)/\wr.cell? ⟨g1,o1+k*5+3,nn⟩=sQ (I J a[k].d)/\wr.cell? ⟨g1,o1+k*5+4,nn⟩=sQ (sL v s y)/\wr.cell? ⟨c,f+k*5,nn⟩=sQ (bO a[k].e)/\wr.cell? ⟨c,f+k*5+1,nn⟩=sQ (I Zk (a[k].i:Int))/\wr.cell? ⟨c,f+k*5+2,nn⟩=sQ (bO a[k].r)/\wr.cell? ⟨c,f+k*5+3,nn⟩=sQ (I J a[k].d)/\wr.cell? ⟨c,f+k*5+4,nn⟩=sQ (sL x u A)/\iB wr v s y a[k].l/\iB wr x u A a[k].l/\g1<wr.heap.size/\c<wr.heap.size:=⟨(b.cell (by exact n)).trans g.c0,(b.cell (by exact n)).trans g.c1,(b.cell (by exact n)).trans g.c2,(b.cell (by exact n)).trans g.c3,(b.cell (by exact n)).trans g.cs,(b.cell (by exact p)).trans h.c0,(b.cell (by exact p)).trans h.c1,(b.cell (by exact p)).trans h.c2,(b.cell (by exact p)).trans h.c3,(b.cell (by exact p)).trans h.cs,g.dat.below b,h.dat.below b,nL n b.size,nL p b.size⟩
    have M:=hI b;clear b g h n p;generalize U:a[k].e=E at*;generalize X:a[k].i=G at*;generalize Z:a[k].r=H at*;generalize T:a[k].d=D at*;generalize Y:a[k].l=L at*;clear U X Z T Y;go_wp2;go_region_held3 (fun W=>W.cell? ⟨g1,o1+k*5,nn⟩=sQ (bO E)/\W.cell? ⟨g1,o1+k*5+1,nn⟩=sQ (I Zk (G:Int))/\W.cell? ⟨g1,o1+k*5+2,nn⟩=sQ (bO H)/\W.cell? ⟨g1,o1+k*5+3,nn⟩=sQ (I J D)/\W.cell? ⟨g1,o1+k*5+4,nn⟩=sQ (sL v s y)/\W.cell? ⟨c,f+k*5,nn⟩=sQ (bO E)/\W.cell? ⟨c,f+k*5+1,nn⟩=sQ (I Zk (G:Int))/\W.cell? ⟨c,f+k*5+2,nn⟩=sQ (bO H)/\W.cell? ⟨c,f+k*5+3,nn⟩=sQ (I J D)/\W.cell? ⟨c,f+k*5+4,nn⟩=sQ (sL x u A)/\iB W v s y L/\iB W x u A L/\g1<W.heap.size/\c<W.heap.size) (first|exact kI _ _ _ _ _ _ _ _ _ _ _ _ _ _ _ _ _ a0 (bW _ _).drew|exact kI _ _ _ _ _ _ _ _ _ _ _ _ _ _ _ _ _ (by assumption) (by assumption)) (first|(go_at_call 86;refine(hJ _ E G H D v s y L (jE (by assumption)).1 x u A (jE (by assumption)).2 hm).mono ?_;rintro o w5 ⟨rfl,a3⟩))
    go_wp2;go_roundw;case rel=>exact⟨k+1,om,by go_num,M.o.trans (((bW _ _).drew.trans a3).mono M.o.size)⟩
    case measure=>simp[intOf];omega
   .go_wp2;go_ret;exact⟨rfl,b⟩
def vR(W W':World)(b c A B:Nat)(j:Int)(k:Int)(l:Int)(f:Bool)(g:Nat)(i:Bool)(e:Int)(r s:Option Addr)(n t p u:Nat)(L:List Nat)(h:W.cell? ⟨b,A,nn⟩=sQ (I J j)/\W.cell? ⟨b,A+1,nn⟩=sQ (I J k)/\W.cell? ⟨b,A+2,nn⟩=sQ (I J l)/\W.cell? ⟨b,A+3,nn⟩=sQ (bO f)/\W.cell? ⟨b,A+4,nn⟩=sQ (I Zk (g:Int))/\W.cell? ⟨b,A+5,nn⟩=sQ (bO i)/\W.cell? ⟨b,A+6,nn⟩=sQ (I J e)/\W.cell? ⟨b,A+7,nn⟩=sQ (sL r n t)/\W.cell? ⟨c,B,nn⟩=sQ (I J j)/\W.cell? ⟨c,B+1,nn⟩=sQ (I J k)/\W.cell? ⟨c,B+2,nn⟩=sQ (I J l)/\W.cell? ⟨c,B+3,nn⟩=sQ (bO f)/\W.cell? ⟨c,B+4,nn⟩=sQ (I Zk (g:Int))/\W.cell? ⟨c,B+5,nn⟩=sQ (bO i)/\W.cell? ⟨c,B+6,nn⟩=sQ (I J e)/\W.cell? ⟨c,B+7,nn⟩=sQ (sL s p u)/\iB W r n t L/\iB W s p u L/\b<W.heap.size/\c<W.heap.size)(a:Bl W W'):(fun W=>W.cell? ⟨b,A,nn⟩=sQ (I J j)/\W.cell? ⟨b,A+1,nn⟩=sQ (I J k)/\W.cell? ⟨b,A+2,nn⟩=sQ (I J l)/\W.cell? ⟨b,A+3,nn⟩=sQ (bO f)/\W.cell? ⟨b,A+4,nn⟩=sQ (I Zk (g:Int))/\W.cell? ⟨b,A+5,nn⟩=sQ (bO i)/\W.cell? ⟨b,A+6,nn⟩=sQ (I J e)/\W.cell? ⟨b,A+7,nn⟩=sQ (sL r n t)/\W.cell? ⟨c,B,nn⟩=sQ (I J j)/\W.cell? ⟨c,B+1,nn⟩=sQ (I J k)/\W.cell? ⟨c,B+2,nn⟩=sQ (I J l)/\W.cell? ⟨c,B+3,nn⟩=sQ (bO f)/\W.cell? ⟨c,B+4,nn⟩=sQ (I Zk (g:Int))/\W.cell? ⟨c,B+5,nn⟩=sQ (bO i)/\W.cell? ⟨c,B+6,nn⟩=sQ (I J e)/\W.cell? ⟨c,B+7,nn⟩=sQ (sL s p u)/\iB W r n t L/\iB W s p u L/\b<W.heap.size/\c<W.heap.size) W':=by
 obtain⟨v,a1,a2,a3,a4,w,x,y,b0,C,D,E,G,H,K,M,N,O,d,s2⟩:=h;exact⟨(a.cell (by exact d)).trans v,(a.cell (by exact d)).trans a1,(a.cell (by exact d)).trans a2,(a.cell (by exact d)).trans a3,(a.cell (by exact d)).trans a4,(a.cell (by exact d)).trans w,(a.cell (by exact d)).trans x,(a.cell (by exact d)).trans y,(a.cell (by exact s2)).trans b0,(a.cell (by exact s2)).trans C,(a.cell (by exact s2)).trans D,(a.cell (by exact s2)).trans E,(a.cell (by exact s2)).trans G,(a.cell (by exact s2)).trans H,(a.cell (by exact s2)).trans K,(a.cell (by exact s2)).trans M,N.below a,O.below a,nL d a.size,nL s2 a.size⟩
def sJ{W:World}{g1 g2 A B:Nat}{gx:Int}{gy:Int}{gz:Int}{ge:Bool}{gi:Nat}{gr:Bool}{gd:Int}{p1 p2:Option Addr}{m1 q1 m2 q2:Nat}{L:List Nat}(h:W.cell? ⟨g1,A,nn⟩=sQ (I J gx)/\W.cell? ⟨g1,A+1,nn⟩=sQ (I J gy)/\W.cell? ⟨g1,A+2,nn⟩=sQ (I J gz)/\W.cell? ⟨g1,A+3,nn⟩=sQ (bO ge)/\W.cell? ⟨g1,A+4,nn⟩=sQ (I Zk (gi:Int))/\W.cell? ⟨g1,A+5,nn⟩=sQ (bO gr)/\W.cell? ⟨g1,A+6,nn⟩=sQ (I J gd)/\W.cell? ⟨g1,A+7,nn⟩=sQ (sL p1 m1 q1)/\W.cell? ⟨g2,B,nn⟩=sQ (I J gx)/\W.cell? ⟨g2,B+1,nn⟩=sQ (I J gy)/\W.cell? ⟨g2,B+2,nn⟩=sQ (I J gz)/\W.cell? ⟨g2,B+3,nn⟩=sQ (bO ge)/\W.cell? ⟨g2,B+4,nn⟩=sQ (I Zk (gi:Int))/\W.cell? ⟨g2,B+5,nn⟩=sQ (bO gr)/\W.cell? ⟨g2,B+6,nn⟩=sQ (I J gd)/\W.cell? ⟨g2,B+7,nn⟩=sQ (sL p2 m2 q2)/\iB W p1 m1 q1 L/\iB W p2 m2 q2 L/\g1<W.heap.size/\g2<W.heap.size):iB W p1 m1 q1 L/\iB W p2 m2 q2 L:=⟨h.2.2.2.2.2.2.2.2.2.2.2.2.2.2.2.2.1,h.2.2.2.2.2.2.2.2.2.2.2.2.2.2.2.2.2.1⟩
def xM{F:FuncId}(w:World)(a1 a2:Option Addr)(n1 c1 n2 c2:Nat)(a:List R8)(h1:aP w a1 n1 c1 a)(t:aP w a2 n2 c2 a)(hn:n1<=1048576)(hd:∀j(ak:j<a.length),a[j].l.length<=1048576)(hF:F=143\/F=145:=by decide):ce F #[sL a1 n1 c1,sL a2 n2 c2] w fun o w'=>o=rT (bO true)/\Bl w w':=by
 rcases hF with rfl|rfl;all_goals
  have E:=h1.len;have D:=t.len;by_cases Q:a=[]
  .subst Q;have Y:n1=0:=E;have Z:n2=0:=D;subst Y Z;clear E D h1 t hd;first|go_enter func143,ntmps143|go_enter func145,ntmps145
   go_wp2;go_loopw [5] (fun i wr=>i=I J 0/\wr=w) (fun _ _=>0);case atStart=>exact⟨rfl,rfl⟩
   case round=>
    obtain⟨rfl,rfl⟩:=hrel;go_wp2;go_ret;exact⟨rfl,bW _ _⟩
  .obtain⟨g1,o1,rfl,k1⟩:=h1.cells Q;obtain⟨c,f,rfl,k2⟩:=t.cells Q;have af:n2=n1:=om;subst af;have X:=hI D;have T:=hI k1;have U:=hI k2;have am:=h1.cap;have ao:=t.cap;have S:=hI hd;clear hd;clear E D h1 t k1 k2;first|go_enter func143,ntmps143|go_enter func145,ntmps145
   go_wp2;go_loopw [5] (fun i wr=>∃k:Nat,k<=n2/\i=I J k/\Bl w wr) (fun i _=>n2-(intOf i).toNat);case atStart=>exact⟨0,nZ _,rfl,bW _ _⟩
   case round=>
    obtain⟨k,hk,rfl,b⟩:=hrel;by_cases ap:k<n2
    .have hkl:k<a.length:=by have:=X.o;omega
     obtain⟨v,s,B,g⟩:=T.o k hkl;obtain⟨A,u,C,h⟩:=U.o k hkl;have n:=Qn w _ g.c0;have p:=Qn w _ h.c0;have hm:s<=1048576:=by have:=S.o k hkl;have:=g.dat.len;omega
     have ac:wr.cell? ⟨g1,o1+k*8,nn⟩=sQ (I J a[k].x)/\wr.cell? ⟨g1,o1+k*8+1,nn⟩=sQ (I J a[k].y)/\wr.cell? ⟨g1,o1+k*8+2,nn⟩=sQ (I J a[k].z)/\wr.cell? ⟨g1,o1+k*8+3,nn⟩=sQ (bO a[k].e)/\wr.cell? ⟨g1,o1+k*8+4,nn⟩=sQ (I Zk (a[k].i:Int))/\wr.cell? ⟨g1,o1+k*8+5,nn⟩=sQ (bO a[k].r)/\wr.cell? ⟨g1,o1+k*8+6,nn⟩=sQ (I J a[k].d)/\wr.cell? ⟨g1,o1+k*8+7,nn⟩=sQ (sL v s B)/\wr.cell? ⟨c,f+k*8,nn⟩=sQ (I J a[k].x)/\wr.cell? ⟨c,f+k*8+1,nn⟩=sQ (I J a[k].y)/\wr.cell? ⟨c,f+k*8+2,nn⟩=sQ (I J a[k].z)/\wr.cell? ⟨c,f+k*8+3,nn⟩=sQ (bO a[k].e)/\wr.cell? ⟨c,f+k*8+4,nn⟩=sQ (I Zk (a[k].i:Int))/\wr.cell? ⟨c,f+k*8+5,nn⟩=sQ (bO a[k].r)/\wr.cell? ⟨c,f+k*8+6,nn⟩=sQ (I J a[k].d)/\wr.cell? ⟨c,f+k*8+7,nn⟩=sQ (sL A u C)/\iB wr v s B a[k].l/\iB wr A u C a[k].l/\g1<wr.heap.size/\c<wr.heap.size:=⟨(b.cell (by exact n)).trans g.c0,(b.cell (by exact n)).trans g.c1,(b.cell (by exact n)).trans g.c2,(b.cell (by exact n)).trans g.c3,(b.cell (by exact n)).trans g.c4,(b.cell (by exact n)).trans g.c5,(b.cell (by exact n)).trans g.c6,(b.cell (by exact n)).trans g.cs,(b.cell (by exact p)).trans h.c0,(b.cell (by exact p)).trans h.c1,(b.cell (by exact p)).trans h.c2,(b.cell (by exact p)).trans h.c3,(b.cell (by exact p)).trans h.c4,(b.cell (by exact p)).trans h.c5,(b.cell (by exact p)).trans h.c6,(b.cell (by exact p)).trans h.cs,g.dat.below b,h.dat.below b,nL n b.size,nL p b.size⟩
     have R:=hI b;clear b g h n p;generalize a7:a[k].x=N at*;generalize a8:a[k].y=O at*;generalize a9:a[k].z=P at*;generalize a3:a[k].e=H at*;generalize a4:a[k].i=K at*;generalize a6:a[k].r=M at*;generalize a0:a[k].d=G at*;generalize a5:a[k].l=L at*;clear a7 a8 a9 a3 a4 a6 a0 a5;go_wp2;go_region_held3 (fun W=>W.cell? ⟨g1,o1+k*8,nn⟩=sQ (I J N)/\W.cell? ⟨g1,o1+k*8+1,nn⟩=sQ (I J O)/\W.cell? ⟨g1,o1+k*8+2,nn⟩=sQ (I J P)/\W.cell? ⟨g1,o1+k*8+3,nn⟩=sQ (bO H)/\W.cell? ⟨g1,o1+k*8+4,nn⟩=sQ (I Zk (K:Int))/\W.cell? ⟨g1,o1+k*8+5,nn⟩=sQ (bO M)/\W.cell? ⟨g1,o1+k*8+6,nn⟩=sQ (I J G)/\W.cell? ⟨g1,o1+k*8+7,nn⟩=sQ (sL v s B)/\W.cell? ⟨c,f+k*8,nn⟩=sQ (I J N)/\W.cell? ⟨c,f+k*8+1,nn⟩=sQ (I J O)/\W.cell? ⟨c,f+k*8+2,nn⟩=sQ (I J P)/\W.cell? ⟨c,f+k*8+3,nn⟩=sQ (bO H)/\W.cell? ⟨c,f+k*8+4,nn⟩=sQ (I Zk (K:Int))/\W.cell? ⟨c,f+k*8+5,nn⟩=sQ (bO M)/\W.cell? ⟨c,f+k*8+6,nn⟩=sQ (I J G)/\W.cell? ⟨c,f+k*8+7,nn⟩=sQ (sL A u C)/\iB W v s B L/\iB W A u C L/\g1<W.heap.size/\c<W.heap.size) (first|exact vR _ _ _ _ _ _ _ _ _ _ _ _ _ _ _ _ _ _ _ _ ac (bW _ _).drew|exact vR _ _ _ _ _ _ _ _ _ _ _ _ _ _ _ _ _ _ _ _ (by assumption) (by assumption)) (first|((first|go_at_call 201|go_at_call 202);refine(AO _ N O P H K M G v s B L (sJ (by assumption)).1 A u C (sJ (by assumption)).2 hm).mono ?_;rintro o w5 ⟨rfl,ad⟩))
     go_wp2;go_roundw;case rel=>exact⟨k+1,om,by go_num,R.o.trans (((bW _ _).drew.trans ad).mono R.o.size)⟩
     case measure=>simp[intOf];omega
    .go_wp2;go_ret;exact⟨rfl,b⟩
open Go.IntKind renaming i64->J
section
variable{X w:World}
structure tr(b:Nat)(X w':World):Prop where
 cp:∀o,w'.cell? ⟨b,o,none⟩=X.cell? ⟨b,o,none⟩
 cr:∀o,w'.cell? ⟨b+1,o,none⟩=X.cell? ⟨b+1,o,none⟩
def vO{b:Nat}{w':World}(hb:Bl X w')(hz:b+2<=X.heap.size):tr b X w':=
 ⟨fun o=>hb.cell (p:=⟨b,o,none⟩) (by show b<_;omega),fun o=>hb.cell (p:=⟨b+1,o,none⟩) (by show b+1<_;omega)⟩
def xU(c:Bl w X)(j:w.heap.size+2<=X.heap.size){a d:Option Addr}{n cap i f:Nat}{b:List R3}(h:bB w a n cap b)(k:bB w d i f b)(l:b.length<=1048576):ce 142 #[sL a n cap,sL d i f] X fun e w'=>e=rT (bO true)/\Bl w w'/\w.heap.size+2<=w'.heap.size/\tr w.heap.size X w':=by
 refine(mr X a d n cap i f b (h.below c) (k.below c) (by have:=h.len;omega)).mono ?_;rintro e w' ⟨rfl,g⟩;exact⟨rfl,c.trans (g.mono c.size),nT j g.size,vO g j⟩
def Hb{F:FuncId}(c:Bl w X)(k:w.heap.size+2<=X.heap.size){a d:Option Addr}{n cap i f:Nat}{b:List R8}(h:aP w a n cap b)(p:aP w d i f b)(r:b.length<=1048576)(hd:∀j(h:j<b.length),b[j].l.length<=1048576)(hF:F=143\/F=145:=by decide):ce F #[sL a n cap,sL d i f] X fun e w'=>e=rT (bO true)/\Bl w w'/\w.heap.size+2<=w'.heap.size/\tr w.heap.size X w':=by
 rcases hF with rfl|rfl;all_goals
  refine(xM X a d n cap i f b (h.below c) (p.below c) (by have:=h.len;omega) hd).mono ?_;rintro e w' ⟨rfl,g⟩;exact⟨rfl,c.trans (g.mono c.size),nT k g.size,vO g k⟩
def A1(c:Bl w X)(k:w.heap.size+2<=X.heap.size){a d:Option Addr}{n cap i f:Nat}{b:List R5}(h:cn w a n cap b)(p:cn w d i f b)(r:b.length<=1048576)(hd:∀j(h:j<b.length),b[j].l.length<=1048576):ce 144 #[sL a n cap,sL d i f] X fun e w'=>e=rT (bO true)/\Bl w w'/\w.heap.size+2<=w'.heap.size/\tr w.heap.size X w':=by
 refine(nv X a d n cap i f b (h.below c) (p.below c) (by have:=h.len;omega) hd).mono ?_;rintro e w' ⟨rfl,g⟩;exact⟨rfl,c.trans (g.mono c.size),nT k g.size,vO g k⟩
def xV(g:Bl w X)(h:w.heap.size+2<=X.heap.size)(a b c d:Int):ce 141 #[cfV a b c d,cfV a b c d] X fun e w'=>e=rT (bO true)/\Bl w w'/\w.heap.size+2<=w'.heap.size/\tr w.heap.size X w':=by
 refine(nz X a b c d).mono ?_;rintro e w' ⟨rfl,f⟩;exact⟨rfl,g.trans (f.mono g.size),nT h f.size,vO f h⟩
def sV(w:World)(H:Ho)(s d:Sl)(h:bj w H s)(t:bj w H d)(u:H.le 1048576):ce 85 #[hoV H s,hoV H d] w fun o w'=>o=rT (bO true)/\Bl w w':=by
 have b:=hI h;have c:=hI t;have a:=hI u;clear h t u;obtain⟨c0,c1,c2,c3,fs,bx,ff,qu,lo,st⟩:=H;obtain⟨a1,n1,k1,a2,n2,k2,a3,n3,k3,a4,n4,k4⟩:=s;obtain⟨W,m1,l1,Y,m2,l2,Z,m3,l3,b4,m4,l4⟩:=d;have am:(lo !=lo)=false:=pQ;have ao:(st !=st)=false:=pQ;go_enter func85,ntmps85;go_wp2_with(first|(go_at_call 141;refine(xV (w:=w) (Zw.alloc pQ _) pQ _ _ _ _).mono ?_;rintro o v ⟨rfl,e,k,P⟩;obtain⟨a0,a9⟩:=P;have C:Hid (Bl w v):=e;have L:Hid (w.heap.size+2<=v.heap.size):=k;clear e k)|(go_at_call 142;refine(xU C.o L.o b.o.fs c.o.fs a.o.fs).mono ?_;rintro o x ⟨rfl,f,l,Q⟩;obtain⟨a5,ac⟩:=Q;have D:Hid (Bl w x):=f;have M:Hid (w.heap.size+2<=x.heap.size):=l;clear f l)|(go_at_call 143;refine(Hb D.o M.o b.o.bx c.o.bx a.o.bx a.o.bd).mono ?_;rintro o y ⟨rfl,g,n,R⟩;obtain⟨a6,ad⟩:=R;have E:Hid (Bl w y):=g;have N:Hid (w.heap.size+2<=y.heap.size):=n;clear g n)|(go_at_call 144;refine(A1 E.o N.o b.o.ff c.o.ff a.o.ff a.o.fd).mono ?_;rintro o A ⟨rfl,i,p,S⟩;obtain⟨a7,af⟩:=S;have G:Hid (Bl w A):=i;have O:Hid (w.heap.size+2<=A.heap.size):=p;clear i p)|(go_at_call 145;refine(Hb G.o O.o b.o.qu c.o.qu a.o.qu a.o.qd).mono ?_;rintro o B ⟨rfl,j,r,T⟩;obtain⟨a8,ak⟩:=T;have K:Hid (Bl w B):=j;have U:Hid (w.heap.size+2<=B.heap.size):=r;clear j r));go_ret;exact⟨rfl,K.o⟩
end
section
variable{w X:World}
def GZ{F:FuncId}(g:Bl w X)(t:w.heap.size+1<=X.heap.size){a:Option Addr}{n cap:Nat}{b:List R8}(h:aP w a n cap b)(m:Nat)(s:m<=1048576)(x:b.length<=9223372036854775807)(hd:∀j(h:j<b.length),b[j].l.length<=9223372036854775807)(hF:F=95\/F=97:=by decide):ce F #[sL a n cap,I J (m:Int)] X fun e w'=>∃z:Int,e=rT (I J z)/\Bl w w'/\w.heap.size+1<=w'.heap.size/\(∀o,w'.cell? ⟨w.heap.size,o,none⟩=X.cell? ⟨w.heap.size,o,none⟩)/\(z= -1\/∃c:Nat,z=(c:Int)/\c<=m/\b.length<=m/\∀j(h:j<b.length),b[j].l.length<=m):=by
 rcases hF with rfl|rfl;all_goals
  have v:=h.len;refine(yH X a n cap b (h.below g) m s om hd).mono ?_;rintro e w' ⟨z,rfl,d,f⟩;refine⟨z,rfl,g.trans (d.mono g.size),nT t d.size,fun o=>d.cell (p:=⟨w.heap.size,o,none⟩) (by show w.heap.size<_;omega),?_⟩;rcases f with f|⟨c,i,k,u,r⟩
  .exact .inl f
  .exact .inr ⟨c,i,k,om,r⟩
def AU(g:Bl w X)(t:w.heap.size+1<=X.heap.size){a:Option Addr}{n cap:Nat}{b:List R5}(h:cn w a n cap b)(m:Nat)(s:m<=1048576)(x:b.length<=9223372036854775807)(hd:∀j(h:j<b.length),b[j].l.length<=9223372036854775807):ce 96 #[sL a n cap,I J (m:Int)] X fun e w'=>∃z:Int,e=rT (I J z)/\Bl w w'/\w.heap.size+1<=w'.heap.size/\(∀o,w'.cell? ⟨w.heap.size,o,none⟩=X.cell? ⟨w.heap.size,o,none⟩)/\(z= -1\/∃c:Nat,z=(c:Int)/\c<=m/\b.length<=m/\∀j(h:j<b.length),b[j].l.length<=m):=by
 have v:=h.len;refine(oZ X a n cap b (h.below g) m s om hd).mono ?_;rintro e w' ⟨z,rfl,d,f⟩;refine⟨z,rfl,g.trans (d.mono g.size),nT t d.size,fun o=>d.cell (p:=⟨w.heap.size,o,none⟩) (by show w.heap.size<_;omega),?_⟩;rcases f with f|⟨c,i,k,u,r⟩
 .exact .inl f
 .exact .inr ⟨c,i,k,om,r⟩
def tI(w:World)(H:Ho)(s:Sl)(h:bj w H s)(C:H.le 9223372036854775807)(m:Nat)(A:m<=1048576):ce 40 #[hoV H s,I J (m:Int)] w fun o w'=>∃z:Int,o=rT (I J z)/\Bl w w'/\(z= -1\/∃D:Nat,z=(D:Int)/\H.le m/\D<=m):=by
 have b:=hI h;have a:=hI C;clear h C;obtain⟨O,c1,c2,c3,d,bx,ff,qu,lo,st⟩:=H;obtain⟨a1,n1,k1,a2,n2,k2,a3,n3,k3,a4,n4,k4⟩:=s;have hA:Bl w (w.alloc (.cells #[I J O,I J c1,I J c2,I J c3,sL a1 n1 k1,sL a2 n2 k2,sL a3 n3 k3,sL a4 n4 k4,I J lo,I J st] 29)):=Zw;have i:=hI hA;clear hA;by_cases h1:(n1:Int)<=(m:Int)
 .have H1:Hid (∀W,ce 94 #[sL a1 n1 k1,I J (m:Int)] W fun o w'=>o=rT (I J ((m:Int)-(n1:Int)))/\W=w'):=by
   intro W;have y:=b.o.fs.len;have T:=a.o.fs;have:=i6 W a1 n1 k1 m om A;rw[QW h1]at this;exact this
  have P:¬(m:Int)-(n1:Int)<0:=om;have x:(m:Int)-(n1:Int)=((m-n1:Nat):Int):=om;have U:m-n1<=1048576:=om;have B:m-n1<=m:=om;rw[x]at H1 P;clear x;generalize Y:m-n1=mx at*;clear Y;go_enter func40,ntmps40;go_wp2_with(go_at_call 94;refine(H1.o _).mono ?_;rintro o w1 ⟨rfl,rfl⟩);refine(GZ i.o pQ b.o.bx mx U a.o.bx a.o.bd).mono ?_;rintro o w2 ⟨z2,rfl,e,p,a0,Q⟩;have k:=hI e;have L:=hI p;clear e p;rcases Q with rfl|⟨Z,rfl,l2,E,t⟩
  .go_wp2_with fail;go_ret;exact⟨_,rfl,k.o,.inl rfl⟩
  .have HD2:=hI (qB E t);clear E t;go_wp2_with fail;refine(AU k.o L.o b.o.ff Z om a.o.ff a.o.fd).mono ?_;rintro o w3 ⟨z3,rfl,f,r,a5,R⟩;have l:=hI f;have M:=hI r;clear f r;rcases R with rfl|⟨m3,rfl,l3,G,u⟩
   .go_wp2_with fail;go_ret;exact⟨_,rfl,l.o,.inl rfl⟩
   .have HD3:=hI (qB G u);clear G u;go_wp2_with fail;refine(GZ l.o M.o b.o.qu m3 om a.o.qu a.o.qd).mono ?_;rintro o w4 ⟨z4,rfl,g,N,a6,S⟩;have n:=hI g;clear g N;rcases S with rfl|⟨m4,rfl,l4,K,v⟩
    .go_wp2_with fail;go_ret;exact⟨_,rfl,n.o,.inl rfl⟩
    .have HD4:=hI (qB K v);clear K v;go_wp2_with fail;go_ret;refine⟨_,rfl,n.o,.inr ⟨m4,rfl,?_,om⟩⟩;have y:n1=d.length:=b.o.fs.len;obtain⟨x2,y2⟩:=HD2.o;obtain⟨x3,y3⟩:=HD3.o;obtain⟨x4,y4⟩:=HD4.o;exact⟨by show d.length<=m;omega,nT x2 B,by show ff.length<=m;omega,by show qu.length<=m;omega,fun j c=>nT (y2 j c) B,fun j c=>nT (y3 j c) om,fun j c=>nT (y4 j c) om⟩
 .have H1:Hid (∀W,ce 94 #[sL a1 n1 k1,I J (m:Int)] W fun o w'=>o=rT (I J (-1))/\W=w'):=by
   intro W;have y:n1=d.length:=b.o.fs.len;have T:d.length<=9223372036854775807:=a.o.fs;have:=i6 W a1 n1 k1 m om A;rw[QV h1]at this;exact this
  go_enter func40,ntmps40;go_wp2_with(go_at_call 94;refine(H1.o _).mono ?_;rintro o w1 ⟨rfl,rfl⟩);go_ret;exact⟨_,rfl,i.o,.inl rfl⟩
end
section
variable{w:World}{b:Nat}{l:List Value}{t:TypeId}
def fC(b:Nat)(t:TypeId):∀(c d a post:List Value)(w:World),d.length=c.length->w.heap[b]?=some (.cells (a++d++post).toArray t (0,0))->(w.setCells b a.length c).heap[b]?=some (.cells (a++c++post).toArray t (0,0)):=by
 intro c;induction c with
 |nil=>
  intro d a post w f h;have:d=[]:=List.length_eq_zero_iff.1 f;subst this;exact h
 |cons v c ih=>
  intro d a post w f h;match d,f with
  |o::old',f=>
   have h1:=QA w b a.length _ _ v h;have e:(a++o::old'++post).toArray.setIfInBounds a.length v=((a++[v])++old'++post).toArray:=pQ;have g:=ih old' (a++[v]) post (w.setCell ⟨b,a.length,none⟩ v) (by simpa using f) (by rw[<- e];exact h1);rw[QX,Q1]at g;rw[Q2 a [v] c]at g;exact g
def cd{fr:Nat × Nat}(h:w.heap[b]?=some (.cells l.toArray t fr)):w.rangeAt b 0 l:=fun j v hv=>by
 simp[World.cell?,h,hv]
def fN(h:w.heap[b]?=some (.cells l.toArray t (0,0)))(o n:Nat)(ho:o+n<=l.length):w.there b o n:=fun j hj=>by
 refine⟨?_,?_⟩
 .have:o+j<l.length:=om;simp[World.cell?,h,this]
 .simp[World.frozen?,h]
def sO(b k:Nat)(c:k≠b)(a:List Value)(w:World)(o:Nat):(w.setCells b o a).heap[k]?=w.heap[k]?:=by
 rw[aT];exact aM b k c a w o
def St.setCells{B:Nat}{p:World->Prop}(h:St B w p)(b o:Nat)(hb:b<B)(vs:List Value):St B (w.setCells b o vs) p:=fun W hW=>h W fun k h1 h2=>(hW k h1 (by rw[aT,bS];exact h2)).trans (sO b k om vs w o)
def yJ:(Tp.info? 50).map (·.size)=some 10:=kr
def zH(c0 c1 c2 c3:Int)(b1:Option Addr)(m1 l1:Nat)(b2:Option Addr)(m2 l2:Nat)(b3:Option Addr)(m3 l3:Nat)(b4:Option Addr)(m4 l4:Nat)(lo st:Int):(#[I J c0,I J c1,I J c2,I J c3,sL b1 m1 l1,sL b2 m2 l2,sL b3 m3 l3,sL b4 m4 l4,I J lo,I J st]:Array Value).all (·.oneCell')=true:=
 Qv (by simp[Value.oneCell'])
end
def mT(a b c d:Int):Bool:=decide (1<=a/\a<=8/\1<=b/\b<=16/\0<=c/\c<=1/\1<=d/\d<=32)
def bT(w:World)(v l m:Int):ce 124 #[I J v,I J l,I J m] w fun o w'=>o=rT (bO (decide (l<=v/\v<=m)))/\w=w':=by
 have a:Hid (∀b:Bool,(b=true↔(l<=v/\v<=m))->b=decide (l<=v/\v<=m)):=fun b h=>by rw[Q0,h];simp
 generalize decide (l<=v/\v<=m)=R at*;go_enter func124,ntmps124;go_wp2;all_goals
  go_ret;refine⟨ai (a.o _ ?_),rfl⟩;simp;try omega
def lZ(w:World)(a b c d:Int):ce 159 #[cfV a b c d] w fun o w'=>o=rT (bO (mT a b c d))/\Bl w w':=by
 go_enter func159,ntmps159;go_wp2;all_goals
  go_ret;refine⟨ai ?_,Zw⟩;unfold mT;rw[Q0];simp;try omega
def kM(w:World)(a b c d:Int):ce 169 #[cfV a b c d] w fun o w'=>o=rT (bO (mT a b c d))/\Bl w w':=by
 go_enter func169,ntmps169;go_wp2_with(go_at_call 124;refine(bT _ _ _ _).mono ?_;rintro o e ⟨rfl,rfl⟩);all_goals
  go_ret;refine⟨ai ?_,Zw⟩;unfold mT;rw[Q0];simp;try omega
def dz(x:R3):Bool:=decide (x.m<(if x.e=true then 536870912 else 2048))&&decide (x.k<(if x.e=true then 536870912 else 2048))
def kL(w:World)(x:R3):ce 205 #[flV x.e x.m x.k] w fun o w'=>o=rT (bO (!dz x))/\Bl w w':=by
 obtain⟨e,m,k⟩:=x;cases e
 .have HD:Hid (∀b:Bool,(b=true↔¬(m<2048/\k<2048))->b= !dz ⟨false,m,k⟩):=fun b h=>by rw[Q0,h];simp[dz];omega
  generalize dz ⟨false,m,k⟩=R at*;go_enter func205,ntmps205;go_wp2;all_goals
   go_ret;refine⟨ai (HD.o _ ?_),Zw⟩;simp;try omega
 .have HD:Hid (∀b:Bool,(b=true↔¬(m<536870912/\k<536870912))->b= !dz ⟨true,m,k⟩):=fun b h=>by rw[Q0,h];simp[dz];omega
  generalize dz ⟨true,m,k⟩=R at*;go_enter func205,ntmps205;go_wp2;all_goals
   go_ret;refine⟨ai (HD.o _ ?_),Zw⟩;simp;try omega
section
variable{bs:List R3}{k:Nat}
def tm(c:k<bs.length)(h:∀j(a:j<bs.length),j<k->dz bs[j]=true)(h1:dz bs[k]=true):∀j(a:j<bs.length),j<k+1->dz bs[j]=true:=by
 intro j a b;by_cases e:j=k
 .subst e;exact h1
 .exact h j a om
def wj(c:bs.length<=k)(h:∀j(a:j<bs.length),j<k->dz bs[j]=true):bs.all dz=true:=by
 rw[qW];intro x b;obtain⟨j,a,rfl⟩:=List.getElem_of_mem b;exact h j a om
def Bi(a:k<bs.length)(h1:dz bs[k]=false):bs.all dz=false:=by
 rw[List.all_eq_false];exact⟨bs[k],ql a,by rw[h1];simp⟩
def nc(w:World)(a:Option Addr)(n cap:Nat)(bs:List R3)(h:bB w a n cap bs)(K:n<=1048576):ce 238 #[sL a n cap,.func (.func 205) #[] #[]] w fun o w'=>∃z:Int,o=rT (I J z)/\decide (0<=z)= !bs.all dz/\Bl w w':=by
 have l:=h.len;have E:=h.cap;by_cases t:bs=[]
 .subst t;have B:n=0:=l;subst B;clear l h;go_enter func238,ntmps238;go_wp2;go_loopw [8] (fun i wr=>i=I J 0/\wr=w) (fun _ _=>0);case atStart=>exact⟨rfl,rfl⟩
  case round=>
   obtain⟨rfl,rfl⟩:=hrel;go_wp2;go_ret;exact⟨-1,rfl,rfl,bW _ _⟩
 .obtain⟨g,off,rfl,hc⟩:=h.cells t;have u:=hI l;have v:=hI hc;have s:=Qn w _ (hc 0 (List.length_pos_iff.2 t)).c0;clear h l hc;go_enter func238,ntmps238;go_wp2;go_loopw [8] (fun i wr=>∃k:Nat,k<=n/\i=I J (k:Int)/\(∀j(A:j<bs.length),j<k->dz bs[j]=true)/\Bl w wr) (fun i _=>n-(intOf i).toNat);case atStart=>exact⟨0,nZ _,rfl,fun j A h=>Qj h (nN _),bW _ _⟩
  case round=>
   obtain⟨k,G,rfl,f,b⟩:=hrel;by_cases H:k<n
   .have hkl:k<bs.length:=by have:=u.o;omega
    have p:=v.o k hkl;have L:=(b.cell (by exact s)).trans p.c0;have M:=(b.cell (by exact s)).trans p.c1;have N:=(b.cell (by exact s)).trans p.c2;have c:=hI b;have x:=hI f;have d:Hid (∀W,ce 205 #[flV bs[k].e bs[k].m bs[k].k] W fun o w'=>o=rT (bO (!dz bs[k]))/\Bl W w'):=fun W=>kL W bs[k];clear p b f;cases hok:dz bs[k]
    .have HN:=hI (Bi hkl hok);rw[hok]at d;clear hok;generalize bs[k].e=y at*;generalize bs[k].m=C at*;generalize bs[k].k=k0 at*;go_wp2_with(go_at_call 205;refine(d.o _).mono ?_;rintro o D ⟨rfl,r⟩);go_ret;exact⟨_,rfl,by rw[HN.o];simp,c.o.trans (r.mono c.o.size)⟩
    .have HN:=hI (tm hkl x.o hok);rw[hok]at d;clear hok;generalize bs[k].e=y at*;generalize bs[k].m=C at*;generalize bs[k].k=k0 at*;go_wp2_with(go_at_call 205;refine(d.o _).mono ?_;rintro o D ⟨rfl,r⟩);go_roundw;case rel=>exact⟨k+1,om,by go_num,HN.o,c.o.trans (r.mono c.o.size)⟩
     case measure=>simp[intOf];omega
   .have HN:=hI (wj (by have:=u.o;omega) f);clear f;go_wp2;go_ret;exact⟨_,rfl,by rw[HN.o];simp,b⟩
def ke(w:World)(a:Option Addr)(n cap:Nat)(bs:List R3)(h:bB w a n cap bs)(f:n<=1048576):ce 204 #[sL a n cap,.func (.func 205) #[] #[]] w fun o w'=>o=rT (bO (!bs.all dz))/\Bl w w':=by
 have c:=hI (nc w a n cap bs h f);clear h;go_enter func204,ntmps204;go_wp2_with(go_at_call 238;refine c.o.mono ?_;rintro o g ⟨z,rfl,b,e⟩;have d:Hid (decide (0<=z)= !bs.all dz):=b;clear b);go_ret;exact⟨ai d.o,e⟩
def ig(bs:List R3):Bool:=decide (bs.length<=16)&&bs.all dz
def jR(w:World)(a:Option Addr)(n cap:Nat)(bs:List R3)(h:bB w a n cap bs)(f:n<=1048576):ce 170 #[sL a n cap] w fun o w'=>o=rT (bO (ig bs))/\Bl w w':=by
 have c:=h.len;have d:=hI (ke w a n cap bs h f);clear h;by_cases g:n<=16
 .have HD:Hid (ig bs=bs.all dz):=by unfold Hid ig;rw[show decide (bs.length<=16)=true from qy om];simp
  have hd:decide ((n:Int)<=16)=true:=by simp;omega
  clear c;have i:∀(b:Fn)(first cap:Array Value)(w:World),(Instr.makeFunc b first cap).run Tp w= .ok (.func b first cap) w:=fun _ _ _ _=>rfl;go_enter func170,ntmps170;go_wp2_with(go_at_call 204;refine d.o.mono ?_;rintro o j ⟨rfl,e⟩);go_ret;exact⟨ai (by rw[HD.o];try simp),e⟩
 .have HD:Hid (ig bs=false):=by unfold Hid ig;rw[show decide (bs.length<=16)=false from qm om];rfl
  have hd:decide ((n:Int)<=16)=false:=by simp;omega
  clear c;go_enter func170,ntmps170;go_wp2;go_ret;exact⟨ai HD.o.symm,bW _ _⟩
end
def di{B:Nat}(w:World)(q:Nat):Below B w (w.drewN q):=QB (bW _ _) q
def zP(x:R3):dz x=true↔(x.m<(if x.e=true then 536870912 else 2048)/\x.k<(if x.e=true then 536870912 else 2048)):=by simp[dz]
def kQ(w:World)(a:Option Addr)(n cap:Nat)(b:List R3)(h:bB w a n cap b)(S:n<=1048576):ce 160 #[sL a n cap] w fun o w'=>o=rT (bO (ig b))/\Bl w w':=by
 have d:=h.len;have M:=h.cap;by_cases L:n<=16
 .have HF:Hid (ig b=b.all dz):=by unfold Hid ig;rw[show decide (b.length<=16)=true from qy om];simp
  have hd:decide ((16:Int)<(n:Int))=false:=by simp;omega
  by_cases D:b=[]
  .subst D;have H:n=0:=d;subst H;clear d h;go_enter func160,ntmps160;go_wp2;go_loopw [3,4] (fun i _ wr=>i=I J 0/\wr=w) (fun _ _ _=>0);case atStart=>exact⟨rfl,rfl⟩
   case round=>
    obtain⟨rfl,rfl⟩:=hrel;go_wp2;go_ret;exact⟨ai HF.o.symm,bW _ _⟩
  .obtain⟨g,off,rfl,hc⟩:=h.cells D;have v:=hI d;have E:=hI hc;clear h d hc;go_enter func160,ntmps160;go_wp2;go_loopw [3,4] (fun i _ wr=>∃k:Nat,k<=n/\i=I J (k:Int)/\(∀j(C:j<b.length),j<k->dz b[j]=true)/\∃q,wr=w.drewN q) (fun i _ _=>n-(intOf i).toNat);case atStart=>exact⟨0,nZ _,rfl,fun j C h=>Qj h (nN _),0,rfl⟩
   case round=>
    obtain⟨k,N,rfl,A,q,rfl⟩:=hrel;have u:=hI A;clear A;by_cases P:k<n
    .have hkl:k<b.length:=by have:=v.o;omega
     have f:=E.o k hkl;have s:=Qn w _ f.c0;have K:=((di (B:=w.heap.size) w q).cell (by exact s)).trans f.c0;have U:=((di (B:=w.heap.size) w q).cell (by exact s)).trans f.c1;have X:=((di (B:=w.heap.size) w q).cell (by exact s)).trans f.c2;have G:Hid (dz b[k]=true->∀j(C:j<b.length),j<k+1->dz b[j]=true):=fun h=>tm hkl u.o h;have x:Hid (dz b[k]=false->b.all dz=false):=fun h=>Bi hkl h;have l:=hI (zP b[k]);clear f;generalize dz b[k]=R at*;generalize b[k].m=t at*;generalize b[k].k=k0 at*;generalize y:w.drewN q=W at*;have r:=hI y.symm;clear y;cases he:b[k].e;case' false=>obtain⟨T,p⟩:∃T:Int,T=2048:=⟨_,rfl⟩
     case' true=>obtain⟨T,p⟩:∃T:Int,T=536870912:=⟨_,rfl⟩
     all_goals
      rw[he]at K l;clear he;by_cases Q:t<T
      .have hdm:decide (T<=t)=false:=by simp;omega
       by_cases O:k0<T
       .have hdk:decide (T<=k0)=false:=by simp;omega
        subst p;have c:=hI (l.o.2 (by simp;omega));go_wp2;go_roundw;case rel=>exact⟨k+1,om,by go_num,G.o c.o,q,r.o⟩
        case measure=>simp[intOf];omega
       .have hdk:decide (T<=k0)=true:=by simp;omega
        subst p;have c:Hid (R=false):=by cases hR:R with|false=>exact rfl|true=>exact Qj (l.o.1 hR) (by simp;omega)
        go_wp2;go_ret;exact⟨ai (by rw[HF.o,x.o c.o]),by rw[r.o];exact di w q⟩
      .have hdm:decide (T<=t)=true:=by simp;omega
       subst p;have c:Hid (R=false):=by cases hR:R with|false=>exact rfl|true=>exact Qj (l.o.1 hR) (by simp;omega)
       go_wp2;go_ret;exact⟨ai (by rw[HF.o,x.o c.o]),by rw[r.o];exact di w q⟩
    .have HA:=hI (wj (by have:=v.o;omega) u.o);go_wp2;go_ret;exact⟨ai (by rw[HF.o,HA.o]),di w q⟩
 .have HF:Hid (ig b=false):=by unfold Hid ig;rw[show decide (b.length<=16)=false from qm om];rfl
  have hd:decide ((16:Int)<(n:Int))=true:=by simp;omega
  clear h d;go_enter func160,ntmps160;go_wp2;go_ret;exact⟨ai HF.o.symm,bW _ _⟩
def mkF(c:Nat):R3:=⟨decide (c%3=0),((c+1:Nat):Int),((c+2:Nat):Int)⟩
def Cj(C:Nat):[Value.bool ((C:Int)%3==0),I .u32 ((C:Int)+1),I .u32 ((C:Int)+1+1)]=[bO (mkF C).e,I .u32 (mkF C).m,I .u32 (mkF C).k]:=by
 have h1:((C:Int)%3==0)=decide (C%3=0):=by rw[Q0];simp;omega
 simp only[mkF,h1];congr 3
def kR(w:World)(g n cap c:Nat)(h:∀j,j<n->at3 w g (j*3) (mkF (c+3*j)))(E:n<=cap)(H:n<=1048576)(D:c<=1000):ce 152 #[sL (be g) n cap,I J (c:Int)] w fun o w'=>o=rT (I J ((c+3*n:Nat):Int))/\Bl w w':=by
 have p:=hI h;clear h;go_enter func152,ntmps152;go_wp2;go_loopw [1,5] (fun t i wr=>∃k q:Nat,k<=n/\i=I J (k:Int)/\t=I J ((c+3*k:Nat):Int)/\wr=w.drewN q) (fun _ i _=>n-(intOf i).toNat);case atStart=>exact⟨0,0,nZ _,rfl,by go_num,rfl⟩
 case round=>
  obtain⟨k,q,G,rfl,rfl,rfl⟩:=hrel;by_cases s:k<n
  .have hx:=p.o k s;have a:=Qn w _ hx.c0;have u:=((di (B:=w.heap.size) w q).cell (by exact a)).trans hx.c0;have v:=((di (B:=w.heap.size) w q).cell (by exact a)).trans hx.c1;have x:=((di (B:=w.heap.size) w q).cell (by exact a)).trans hx.c2;clear hx;generalize hC:c+3*k=C at*;have l:=hI hC;have A:C<=4000000:=om;clear hC;have y:(C:Int).tmod 3=((C%3:Nat):Int):=by rw[QZ om];omega
   have h1:(mkF C).e=((C:Int)%3==0):=by rw[Q0];simp[mkF];omega
   have b:(mkF C).m=(C:Int)+1:=by simp[mkF]
   have d:(mkF C).k=(C:Int)+1+1:=by simp[mkF];omega
   rw[h1]at u;rw[b]at v;rw[d]at x;clear h1 b d;generalize f:w.drewN q=W at*;have r:=hI f.symm;clear f;go_wp2;refine⟨⟨k+1,q,om,by go_num,by rw[<- l.o];go_num,r.o⟩,by simp[intOf];omega⟩
  .have hkn:k=n:=om;subst hkn;go_wp2;go_ret;exact⟨rfl,di w q⟩
open Go renaming World->Wd
section
variable{W W':Wd}{n g c cap:Nat}{hs:Nat->Hd}{a:Option Addr}
def at3.newF{w:Wd}{M:Nat}(h:ay w g M)(p:Nat)(hp:p+3<=M)(b:R3):at3 (aO w g p [bO b.e,I Zk b.m,I Zk b.k]) g p b:=
 ⟨az g _ w p 0 pQ (h (p+0) om).1,az g _ w p 1 pQ (h (p+1) om).1,az g _ w p 2 pQ (h (p+2) om).1⟩
def GC(B:Nat)(w:Wd)(g n cap c:Nat)(t:ay w g (n*3))(S:n<=cap)(X:n<=1048576)(R:c<=1000)(hB:B<=g):ce 147 #[sL (be g) n cap,I J (c:Int)] w fun o w'=>o=rT (I J ((c+3*n:Nat):Int))/\(∀j,j<n->at3 w' g (j*3) (mkF (c+3*j)))/\(∀x N,ay w x N->ay w' x N)/\(∀b,b≠g->w'.heap[b]?=w.heap[b]?)/\w'.heap.size=w.heap.size/\Below B w w':=by
 have y:=hI t;clear t;go_enter func147,ntmps147;go_wp2;go_loopw [1,5] (fun A i wr=>∃k:Nat,k<=n/\i=I J (k:Int)/\A=I J ((c+3*k:Nat):Int)/\(∀j,j<k->at3 wr g (j*3) (mkF (c+3*j)))/\(∀x N,ay w x N->ay wr x N)/\(∀b,b≠g->wr.heap[b]?=w.heap[b]?)/\wr.heap.size=w.heap.size/\Below B w wr) (fun _ i _=>n-(intOf i).toNat);case atStart=>exact⟨0,nZ _,rfl,by go_num,fun j s=>Qj s (nN _),fun _ _ h=>h,fun _ _=>rfl,rfl,bW _ _⟩
 case round=>
  obtain⟨k,T,rfl,rfl,l,f,p,r,d⟩:=hrel;by_cases U:k<n
  .have hrw:=f g (n*3) y.o;obtain⟨⟨Y,z0⟩,M⟩:=hrw (k*3) om;obtain⟨⟨Z,z1⟩,O⟩:=hrw (k*3+1) om;obtain⟨⟨v2,z2⟩,P⟩:=hrw (k*3+2) om;have v:Hid ((∀j,j<k->at3 wr g (j*3) (mkF (c+3*j)))/\(∀x N,ay w x N->ay wr x N)/\(∀b,b≠g->wr.heap[b]?=w.heap[b]?)/\wr.heap.size=w.heap.size/\Below B w wr/\ay wr g (n*3)):=⟨l,f,p,r,d,hrw⟩
   clear l f p r d hrw;generalize hC:c+3*k=C at*;have u:=hI hC;have Q:C<=4000000:=om;clear hC;have L:(C:Int).tmod 3=((C%3:Nat):Int):=by rw[QZ om];omega
   go_wp2;obtain⟨D,E,G,H,r5,K⟩:=v.o;have hC:=u.o;refine⟨⟨k+1,om,by go_num,by rw[<- hC];go_num,fun j s=>?_,fun x N h=>(E x N h).setRow g [Value.bool ((C:Int)%3==0),I Zk ((C:Int)+1),I Zk ((C:Int)+1+1)] wr (k*3),fun b d=>(aM g b d [Value.bool ((C:Int)%3==0),I Zk ((C:Int)+1),I Zk ((C:Int)+1+1)] wr (k*3)).trans (G b d),(bS g [Value.bool ((C:Int)%3==0),I Zk ((C:Int)+1),I Zk ((C:Int)+1+1)] wr (k*3)).trans H,cJ g B hB w [Value.bool ((C:Int)%3==0),I Zk ((C:Int)+1),I Zk ((C:Int)+1+1)] wr (k*3) r5⟩,by simp[intOf];omega⟩;by_cases e:j=k
   .subst e;have:=at3.newF K (j*3) om (mkF C);rw[<- Cj]at this;rw[hC];exact this
   .exact (D j om).keep [Value.bool ((C:Int)%3==0),I Zk ((C:Int)+1),I Zk ((C:Int)+1+1)] (k*3) (by simp;omega)
  .have hkn:k=n:=om;subst hkn;go_wp2;go_ret;exact⟨rfl,l,f,p,r,d⟩
def Cg{F:FuncId}(w:Wd)(c:Nat)(hF:F=148\/F=149\/F=150\/F=153\/F=154\/F=155:=by decide):ce F #[sL nn 0 0,I J (c:Int)] w fun o w'=>o=rT (I J (c:Int))/\w'=w:=by
 rcases hF with rfl|rfl|rfl|rfl|rfl|rfl;all_goals
  first|go_enter func148,ntmps148|go_enter func149,ntmps149|go_enter func150,ntmps150|go_enter func153,ntmps153|go_enter func154,ntmps154|go_enter func155,ntmps155
  go_wp2;go_loopw [1,5] (fun b i wr=>i=I J 0/\b=I J (c:Int)/\wr=w) (fun _ _ _=>0);case atStart=>exact⟨rfl,rfl,rfl⟩
  case round=>
   obtain⟨rfl,rfl,rfl⟩:=hrel;go_wp2;go_ret;exact⟨rfl,rfl⟩
def ft(a:Option Addr)(n:Nat)(hs:Nat->Hd)(x:Nat):Prop:=a=be x\/∃j,j<n/\(hs j).1=be x
def inn(B T:Nat)(a:Option Addr)(n:Nat)(hs:Nat->Hd):Prop:=∀x,ft a n hs x->B<=x/\x<T
def sx8(W:Wd)(a:Option Addr)(n cap:Nat)(hs:Nat->Hd):Prop:=(a=nn/\n=0/\cap=0)\/∃g,a=be g/\sh8 W g n hs/\n<=cap
def sx5(W:Wd)(a:Option Addr)(n cap:Nat)(hs:Nat->Hd):Prop:=(a=nn/\n=0/\cap=0)\/∃g,a=be g/\sh5 W g n hs/\n<=cap
def lR(W:Wd)(a:Option Addr)(n c:Nat)(hs:Nat->Hd):Prop:=∀g,a=be g->∀j,j<n->mk8 W g (j*8) (cn8 c hs j) (hs j)
def sn(W:Wd)(a:Option Addr)(n c:Nat)(hs:Nat->Hd):Prop:=∀g,a=be g->∀j,j<n->mk5 W g (j*5) (cn5 c hs j) (hs j)
def lR.up(h:lR W a n c hs)(he:∀x,ft a n hs x->W'.heap[x]?=W.heap[x]?):lR W' a n c hs:=fun g e j hj=>(h g e j hj).up (he g (qp e)) (fun b hb=>he b (qt ⟨j,hj,hb⟩))
def sn.up(h:sn W a n c hs)(he:∀x,ft a n hs x->W'.heap[x]?=W.heap[x]?):sn W' a n c hs:=fun g e j hj=>(h g e j hj).up (he g (qp e)) (fun b hb=>he b (qt ⟨j,hj,hb⟩))
def hd.same{h:Hd}(H:hd W g h)(i:∀b,h.1=be b->W'.heap[b]?=W.heap[b]?):hd W' g h:=by
 obtain⟨h1,f,d⟩:=H;refine⟨h1,f,?_⟩;rcases d with d|⟨b,e,k,j⟩
 .exact qp d
 .exact qt ⟨b,e,k,j.up (i b e)⟩
def sh8.same(h:sh8 W g n hs)(he:∀x,ft (be g) n hs x->W'.heap[x]?=W.heap[x]?):sh8 W' g n hs:=
 ⟨h.row.up (he g (qp rfl)),fun j hj=>⟨cU (h.dat j hj).1 (he g (qp rfl)),(h.dat j hj).2.same fun b hb=>he b (qt ⟨j,hj,hb⟩)⟩⟩
def sh5.same(h:sh5 W g n hs)(he:∀x,ft (be g) n hs x->W'.heap[x]?=W.heap[x]?):sh5 W' g n hs:=
 ⟨h.row.up (he g (qp rfl)),fun j hj=>⟨cU (h.dat j hj).1 (he g (qp rfl)),(h.dat j hj).2.same fun b hb=>he b (qt ⟨j,hj,hb⟩)⟩⟩
def sx8.same(h:sx8 W a n cap hs)(d:∀x,ft a n hs x->W'.heap[x]?=W.heap[x]?):sx8 W' a n cap hs:=by
 rcases h with h|⟨g,e,h1,b⟩
 .exact qp h
 .subst e;exact qt ⟨g,rfl,h1.same d,b⟩
def sx5.same(h:sx5 W a n cap hs)(d:∀x,ft a n hs x->W'.heap[x]?=W.heap[x]?):sx5 W' a n cap hs:=by
 rcases h with h|⟨g,e,h1,b⟩
 .exact qp h
 .subst e;exact qt ⟨g,rfl,h1.same d,b⟩
def py{x:Nat}(ha:a=be g)(h:¬ft a n hs x):x≠g/\∀j,j<n->(hs j).1≠sQ ⟨x,0,nn⟩:=⟨fun e=>h (qp (by rw[ha,e])),fun j hj e=>h (qt ⟨j,hj,e⟩)⟩
def vL{F:FuncId}(B T:Nat)(w:Wd)(p:Nat)(a:Option Addr)(n cap c:Nat)(hs:Nat->Hd)(h:sx8 w a n cap hs)(hi:inn B T a n hs)(L:T<=p)(u:n<=1048576)(s:c<=20000000000000)(hF:F=148\/F=150:=by decide):ce F #[sL a n cap,I J (c:Int)] w fun o w'=>o=rT (I J (cn8 c hs n:Int))/\(∀o,w'.cell? ⟨p,o,nn⟩=w.cell? ⟨p,o,nn⟩)/\(dst hs n->lR w' a n c hs)/\(∀x N,ay w x N->ay w' x N)/\(∀x,¬ft a n hs x->w'.heap[x]?=w.heap[x]?)/\sx8 w' a n cap hs/\w'.heap.size=w.heap.size/\Below B w w':=by
 rcases hF with rfl|rfl;all_goals
  have y:¬ft a n hs p:=fun e=>Qj (hi p e).2 om;rcases h with⟨l,v,t⟩|⟨g,rfl,h,f⟩
  .subst l v t;refine(Cg w c).mono ?_;rintro o w' ⟨rfl,rfl⟩;exact⟨rfl,fun _=>rfl,fun _ g e=>Qj e pQ,fun _ _ h=>h,fun _ _=>rfl,qp ⟨rfl,rfl,rfl⟩,rfl,bW _ _⟩
  .refine (uh B w g n cap c hs h f u s (hi g (qp rfl)).1 (fun j d b r=>(hi b (qt ⟨j,d,r⟩)).1)).mono ?_;rintro o w' ⟨rfl,A,C,D,E,G,H⟩;have k:∀x,¬ft (be g) n hs x->w'.heap[x]?=w.heap[x]?:=fun x i=>E x (py rfl i).1 (py rfl i).2;exact⟨rfl,fun o=>by simp only[World.cell?,k p y],fun hd K e j d=>by cases e;exact A hd j d,D,k,qt ⟨g,rfl,C,f⟩,G,H⟩
def Ck(B T:Nat)(w:Wd)(p:Nat)(a:Option Addr)(n cap c:Nat)(hs:Nat->Hd)(h:sx5 w a n cap hs)(hi:inn B T a n hs)(L:T<=p)(u:n<=1048576)(s:c<=20000000000000):ce 149 #[sL a n cap,I J (c:Int)] w fun o w'=>o=rT (I J (cn5 c hs n:Int))/\(∀o,w'.cell? ⟨p,o,nn⟩=w.cell? ⟨p,o,nn⟩)/\(dst hs n->sn w' a n c hs)/\(∀x N,ay w x N->ay w' x N)/\(∀x,¬ft a n hs x->w'.heap[x]?=w.heap[x]?)/\sx5 w' a n cap hs/\w'.heap.size=w.heap.size/\Below B w w':=by
 have y:¬ft a n hs p:=fun e=>Qj (hi p e).2 om;rcases h with⟨l,v,t⟩|⟨g,rfl,h,f⟩
 .subst l v t;refine(Cg w c).mono ?_;rintro o w' ⟨rfl,rfl⟩;exact⟨rfl,fun _=>rfl,fun _ g e=>Qj e pQ,fun _ _ h=>h,fun _ _=>rfl,qp ⟨rfl,rfl,rfl⟩,rfl,bW _ _⟩
 .refine (lS B w g n cap c hs h f u s (hi g (qp rfl)).1 (fun j d b r=>(hi b (qt ⟨j,d,r⟩)).1)).mono ?_;rintro o w' ⟨rfl,A,C,D,E,G,H⟩;have k:∀x,¬ft (be g) n hs x->w'.heap[x]?=w.heap[x]?:=fun x i=>E x (py rfl i).1 (py rfl i).2;exact⟨rfl,fun o=>by simp only[World.cell?,k p y],fun hd K e j d=>by cases e;exact A hd j d,D,k,qt ⟨g,rfl,C,f⟩,G,H⟩
def vS{F:FuncId}(w:Wd)(a:Option Addr)(n cap c:Nat)(hs:Nat->Hd)(h:sx8 w a n cap hs)(i:lR w a n c hs)(j:n<=1048576)(d:c<=20000000000000)(hF:F=153\/F=155:=by decide):ce F #[sL a n cap,I J (c:Int)] w fun o w'=>o=rT (I J (cn8 c hs n:Int))/\w'=w:=by
 rcases hF with rfl|rfl;all_goals
  rcases h with⟨b,k,f⟩|⟨g,rfl,h,e⟩
  .subst b k f;exact Cg w c
  .exact uF w g n cap c hs h (i g rfl) e j d
def Cz(w:Wd)(a:Option Addr)(n cap c:Nat)(hs:Nat->Hd)(h:sx5 w a n cap hs)(i:sn w a n c hs)(j:n<=1048576)(d:c<=20000000000000):ce 154 #[sL a n cap,I J (c:Int)] w fun o w'=>o=rT (I J (cn5 c hs n:Int))/\w'=w:=by
 rcases h with⟨b,k,f⟩|⟨g,rfl,h,e⟩
 .subst b k f;exact Cg w c
 .exact mg w g n cap c hs h (i g rfl) e j d
end
section
variable{W W':World}{B T n cap:Nat}{a:Option Addr}{hs:Nat->Hd}
structure Wh where
 g1:Nat
 n1:Nat
 k1:Nat
 a2:Option Addr
 n2:Nat
 k2:Nat
 h2:Nat->Hd
 a3:Option Addr
 n3:Nat
 k3:Nat
 h3:Nat->Hd
 a4:Option Addr
 n4:Nat
 k4:Nat
 h4:Nat->Hd
abbrev Wh.sl(s:Wh):Sl:=⟨some ⟨s.g1,0,none⟩,s.n1,s.k1,s.a2,s.n2,s.k2,s.a3,s.n3,s.k3,s.a4,s.n4,s.k4⟩
structure whS(B T:Nat)(W:World)(s:Wh):Prop where
 f:ay W s.g1 (s.n1*3)
 fc:s.n1<=s.k1
 fb:B<=s.g1/\s.g1<T
 x:sx8 W s.a2 s.n2 s.k2 s.h2
 xb:inn B T s.a2 s.n2 s.h2
 r:sx5 W s.a3 s.n3 s.k3 s.h3
 rb:inn B T s.a3 s.n3 s.h3
 q:sx8 W s.a4 s.n4 s.k4 s.h4
 qb:inn B T s.a4 s.n4 s.h4
 m1:s.n1<=1048576
 m2:s.n2<=1048576
 m3:s.n3<=1048576
 m4:s.n4<=1048576
def whS.same{s:Wh}(h:whS B T W s)(he:∀x,B<=x->x<T->W'.heap[x]?=W.heap[x]?):whS B T W' s:=
 ⟨h.f.up (he _ h.fb.1 h.fb.2),h.fc,h.fb,h.x.same (fun x hx=>he x (h.xb x hx).1 (h.xb x hx).2),h.xb,h.r.same (fun x hx=>he x (h.rb x hx).1 (h.rb x hx).2),h.rb,h.q.same (fun x hx=>he x (h.qb x hx).1 (h.qb x hx).2),h.qb,h.m1,h.m2,h.m3,h.m4⟩
structure whD(s:Wh):Prop where
 s12:¬ft s.a2 s.n2 s.h2 s.g1
 s13:¬ft s.a3 s.n3 s.h3 s.g1
 s14:¬ft s.a4 s.n4 s.h4 s.g1
 s23:∀x,ft s.a2 s.n2 s.h2 x->¬ft s.a3 s.n3 s.h3 x
 s24:∀x,ft s.a2 s.n2 s.h2 x->¬ft s.a4 s.n4 s.h4 x
 s34:∀x,ft s.a3 s.n3 s.h3 x->¬ft s.a4 s.n4 s.h4 x
def Wh.c1(s:Wh)(c:Nat):Nat:=c+3*s.n1
def Wh.c2(s:Wh)(c:Nat):Nat:=cn8 (s.c1 c) s.h2 s.n2
def Wh.c3(s:Wh)(c:Nat):Nat:=cn5 (s.c2 c) s.h3 s.n3
def Wh.c4(s:Wh)(c:Nat):Nat:=cn8 (s.c3 c) s.h4 s.n4
structure whE(s:Wh):Prop where
 d2:dst s.h2 s.n2
 d3:dst s.h3 s.n3
 d4:dst s.h4 s.n4
structure whM(W:World)(s:Wh)(c:Nat):Prop where
 f:∀j,j<s.n1->at3 W s.g1 (j*3) (mkF (c+3*j))
 x:lR W s.a2 s.n2 (s.c1 c) s.h2
 r:sn W s.a3 s.n3 (s.c2 c) s.h3
 q:lR W s.a4 s.n4 (s.c3 c) s.h4
def sx8.bd(h:sx8 W a n cap hs):∀j,j<n->(hs j).2.1<=1048576:=by
 rcases h with⟨_,e,_⟩|⟨g,_,h,_⟩
 .intro j hj;omega
 .intro j hj;exact(h.dat j hj).2.1
def sx5.bd(h:sx5 W a n cap hs):∀j,j<n->(hs j).2.1<=1048576:=by
 rcases h with⟨_,e,_⟩|⟨g,_,h,_⟩
 .intro j hj;omega
 .intro j hj;exact(h.dat j hj).2.1
def whS.c1{s:Wh}(h:whS B T W s){c:Nat}(b:c<=1000):s.c1 c<=4000000:=by have:=h.m1;unfold Wh.c1;omega
def whS.c2{s:Wh}(h:whS B T W s){c:Nat}(b:c<=1000):s.c2 c<=2000000000000:=by
 have h1:=h.c1 b;have d:=rj (s.c1 c) s.n2 s.h2 h.x.bd s.n2 (nR _);have e:=h.m2;unfold Wh.c2;omega
def whS.c3{s:Wh}(h:whS B T W s){c:Nat}(b:c<=1000):s.c3 c<=4000000000000:=by
 have h1:=h.c2 b;have d:=uP (s.c2 c) s.n3 s.h3 h.r.bd s.n3 (nR _);have e:=h.m3;unfold Wh.c3;omega
def whS.c4{s:Wh}(h:whS B T W s){c:Nat}(b:c<=1000):s.c4 c<=6000000000000:=by
 have h1:=h.c3 b;have d:=rj (s.c3 c) s.n4 s.h4 h.q.bd s.n4 (nR _);have e:=h.m4;unfold Wh.c4;omega
def Cl(B T:Nat)(w:World)(p g n cap c:Nat)(i:ay w g (n*3))(f:n<=cap)(h:n<=1048576)(e:c<=1000)(hB:B<=g)(t:g<T)(u:T<=p):ce 147 #[sL (be g) n cap,I J (c:Int)] w fun o w'=>o=rT (I J ((c+3*n:Nat):Int))/\(∀o,w'.cell? ⟨p,o,none⟩=w.cell? ⟨p,o,none⟩)/\(∀j,j<n->at3 w' g (j*3) (mkF (c+3*j)))/\(∀x N,ay w x N->ay w' x N)/\(∀b,b≠g->w'.heap[b]?=w.heap[b]?)/\w'.heap.size=w.heap.size/\Below B w w':=by
 refine(GC B w g n cap c i f h e hB).mono ?_;rintro o w' ⟨rfl,k,l,d,r,s⟩;exact⟨rfl,fun o=>by simp only[World.cell?,d p om],k,l,d,r,s⟩
def jC(B T:Nat)(w:World)(S c1 c2 c3 lo st:Int)(s:Wh)(c:Nat)(h:whS B T w s)(hd:whD s)(N:T<=w.heap.size)(O:c<=1000):ce 88 #[aG #[I J S,I J c1,I J c2,I J c3,sL (be s.g1) s.n1 s.k1,sL s.a2 s.n2 s.k2,sL s.a3 s.n3 s.k3,sL s.a4 s.n4 s.k4,I J lo,I J st],I J (c:Int)] w fun o w'=>o=rT (I J (s.c4 c:Int))/\(whE s->whM w' s c)/\whS B T w' s/\(∀x,(x<B\/T<=x)->x<w.heap.size->w'.heap[x]?=w.heap[x]?)/\Below B w w':=by
 have P:Hid (s.c1 c<=20000000000000/\s.c2 c<=20000000000000/\s.c3 c<=20000000000000):=⟨by have:=h.c1 O;omega,by have:=h.c2 O;omega,by have:=h.c3 O;omega⟩
 have p:=hI hd;have k:Hid (∀o:Obj,whS B T (w.alloc o) s):=fun o=>h.same fun x _ b=>Below.heap_alloc w _ x om;have Q:Hid (∀o:Obj,Below B w (w.alloc o)):=fun o=>(bW _ _).alloc (by have:=h.fb;omega) _;have R:Hid (∀(o:Obj)x,x<w.heap.size->(w.alloc o).heap[x]?=w.heap[x]?):=fun o x b=>Below.heap_alloc w _ x b;clear h hd;go_enter func88,ntmps88
 go_wp2_with(first|(go_at_call 147;refine(Cl B T _ w.heap.size s.g1 s.n1 s.k1 c (k.o _).f (k.o (.cells #[] 3)).fc (k.o (.cells #[] 3)).m1 O (k.o (.cells #[] 3)).fb.1 (k.o (.cells #[] 3)).fb.2 N).mono ?_;rintro o M ⟨rfl,U,u,v,d,E,y⟩;have l:Hid (whS B T M s/\Below B w M/\(∀j,j<s.n1->at3 M s.g1 (j*3) (mkF (c+3*j)))/\(∀x,(x<B\/T<=x)->x<w.heap.size->M.heap[x]?=w.heap[x]?)):=⟨⟨v _ _ (k.o _).f,(k.o (.cells #[] 3)).fc,(k.o (.cells #[] 3)).fb,(k.o _).x.same (fun x b=>d x (fun e=>p.o.s12 (by rw[<- e];exact b))),(k.o (.cells #[] 3)).xb,(k.o _).r.same (fun x b=>d x (fun e=>p.o.s13 (by rw[<- e];exact b))),(k.o (.cells #[] 3)).rb,(k.o _).q.same (fun x b=>d x (fun e=>p.o.s14 (by rw[<- e];exact b))),(k.o (.cells #[] 3)).qb,(k.o (.cells #[] 3)).m1,(k.o (.cells #[] 3)).m2,(k.o (.cells #[] 3)).m3,(k.o (.cells #[] 3)).m4⟩,(Q.o _).trans y,u,fun x b D=>(d x (by have:=(k.o (.cells #[] 3)).fb;omega)).trans (R.o _ x D)⟩;clear u v d E y)|(go_at_call 148;refine(vL B T M w.heap.size s.a2 s.n2 s.k2 (s.c1 c) s.h2 l.o.1.x l.o.1.xb N l.o.1.m2 P.o.1).mono ?_;rintro o K ⟨rfl,X,u,v,d,A,E,y⟩;have i:Hid (whS B T K s/\Below B w K/\(whE s->(∀j,j<s.n1->at3 K s.g1 (j*3) (mkF (c+3*j)))/\lR K s.a2 s.n2 (s.c1 c) s.h2)/\(∀x,(x<B\/T<=x)->x<w.heap.size->K.heap[x]?=w.heap[x]?)):=⟨⟨v _ _ l.o.1.f,l.o.1.fc,l.o.1.fb,A,l.o.1.xb,l.o.1.r.same (fun x b=>d x (fun e=>p.o.s23 x e b)),l.o.1.rb,l.o.1.q.same (fun x b=>d x (fun e=>p.o.s24 x e b)),l.o.1.qb,l.o.1.m1,l.o.1.m2,l.o.1.m3,l.o.1.m4⟩,l.o.2.1.trans y,fun t=>⟨fun j L=>(l.o.2.2.1 j L).up (d _ p.o.s12),u t.d2⟩,fun x b D=>(d x (fun e=>by have:=l.o.1.xb x e;omega)).trans (l.o.2.2.2 x b D)⟩;clear u v d A E y)|(go_at_call 149;refine(Ck B T K w.heap.size s.a3 s.n3 s.k3 (s.c2 c) s.h3 i.o.1.r i.o.1.rb N i.o.1.m3 P.o.2.1).mono ?_;rintro o G ⟨rfl,Y,u,v,d,A,E,y⟩;have g:Hid (whS B T G s/\Below B w G/\(whE s->(∀j,j<s.n1->at3 G s.g1 (j*3) (mkF (c+3*j)))/\lR G s.a2 s.n2 (s.c1 c) s.h2/\sn G s.a3 s.n3 (s.c2 c) s.h3)/\(∀x,(x<B\/T<=x)->x<w.heap.size->G.heap[x]?=w.heap[x]?)):=⟨⟨v _ _ i.o.1.f,i.o.1.fc,i.o.1.fb,i.o.1.x.same (fun x b=>d x (p.o.s23 x b)),i.o.1.xb,A,i.o.1.rb,i.o.1.q.same (fun x b=>d x (fun e=>p.o.s34 x e b)),i.o.1.qb,i.o.1.m1,i.o.1.m2,i.o.1.m3,i.o.1.m4⟩,i.o.2.1.trans y,fun t=>⟨fun j L=>((i.o.2.2.1 t).1 j L).up (d _ p.o.s13),(i.o.2.2.1 t).2.up (fun x b=>d x (p.o.s23 x b)),u t.d3⟩,fun x b D=>(d x (fun e=>by have:=i.o.1.rb x e;omega)).trans (i.o.2.2.2 x b D)⟩;clear u v d A E y)|(go_at_call 150;refine(vL B T G w.heap.size s.a4 s.n4 s.k4 (s.c3 c) s.h4 g.o.1.q g.o.1.qb N g.o.1.m4 P.o.2.2).mono ?_;rintro o H ⟨rfl,Z,u,v,d,A,E,y⟩;have C:Hid (whS B T H s/\Below B w H/\(whE s->(∀j,j<s.n1->at3 H s.g1 (j*3) (mkF (c+3*j)))/\lR H s.a2 s.n2 (s.c1 c) s.h2/\sn H s.a3 s.n3 (s.c2 c) s.h3/\lR H s.a4 s.n4 (s.c3 c) s.h4)/\(∀x,(x<B\/T<=x)->x<w.heap.size->H.heap[x]?=w.heap[x]?)):=⟨⟨v _ _ g.o.1.f,g.o.1.fc,g.o.1.fb,g.o.1.x.same (fun x b=>d x (p.o.s24 x b)),g.o.1.xb,g.o.1.r.same (fun x b=>d x (p.o.s34 x b)),g.o.1.rb,A,g.o.1.qb,g.o.1.m1,g.o.1.m2,g.o.1.m3,g.o.1.m4⟩,g.o.2.1.trans y,fun t=>⟨fun j L=>((g.o.2.2.1 t).1 j L).up (d _ p.o.s14),(g.o.2.2.1 t).2.1.up (fun x b=>d x (p.o.s24 x b)),(g.o.2.2.1 t).2.2.up (fun x b=>d x (p.o.s34 x b)),u t.d4⟩,fun x b D=>(d x (fun e=>by have:=g.o.1.qb x e;omega)).trans (g.o.2.2.2 x b D)⟩;clear u v d A E y))
 go_ret;exact⟨rfl,fun t=>⟨(C.o.2.2.1 t).1,(C.o.2.2.1 t).2.1,(C.o.2.2.1 t).2.2.1,(C.o.2.2.1 t).2.2.2⟩,C.o.1,C.o.2.2.2,C.o.2.1⟩
def whM.same{s:Wh}{c:Nat}(h:whM W s c)(hs:whS B T W s)(he:∀x,B<=x->x<T->W'.heap[x]?=W.heap[x]?):whM W' s c:=
 ⟨fun j hj=>(h.f j hj).up (he _ hs.fb.1 hs.fb.2),h.x.up (fun x hx=>he x (hs.xb x hx).1 (hs.xb x hx).2),h.r.up (fun x hx=>he x (hs.rb x hx).1 (hs.rb x hx).2),h.q.up (fun x hx=>he x (hs.qb x hx).1 (hs.qb x hx).2)⟩
def pU(B T:Nat)(w:World)(t c1 c2 c3 lo st:Int)(s:Wh)(c:Nat)(h:whS B T w s)(l:whM w s c)(A:T<=w.heap.size)(g:c<=1000):ce 91 #[aG #[I J t,I J c1,I J c2,I J c3,sL (be s.g1) s.n1 s.k1,sL s.a2 s.n2 s.k2,sL s.a3 s.n3 s.k3,sL s.a4 s.n4 s.k4,I J lo,I J st],I J (c:Int)] w fun o w'=>o=rT (I J (s.c4 c:Int))/\Bl w w':=by
 have i:Hid (s.c1 c<=20000000000000/\s.c2 c<=20000000000000/\s.c3 c<=20000000000000):=⟨by have:=h.c1 g;omega,by have:=h.c2 g;omega,by have:=h.c3 g;omega⟩
 have b:Hid (∀W,Bl w W->whS B T W s/\whM W s c):=fun W k=>⟨h.same fun x _ u=>k.block x om,l.same h fun x _ u=>k.block x om⟩
 have e:Hid (∀o:Obj,Bl w (w.alloc o)):=fun o=>Zw;clear h l;go_enter func91,ntmps91
 go_wp2_with(first|(go_at_call 152;refine(kR _ s.g1 s.n1 s.k1 c (b.o _ (e.o _)).2.f (b.o _ (e.o (.cells #[] 3))).1.fc (b.o _ (e.o (.cells #[] 3))).1.m1 g).mono ?_;rintro o v ⟨rfl,j⟩;have d:Hid (Bl w v):=(e.o _).trans (j.mono pQ);have y:=fun o=>j.cell (p:=⟨w.heap.size,o,none⟩) pQ;clear j;have n1:¬((s.c1 c:Nat):Int)<0:=by omega)|(go_at_call 153;refine(vS _ s.a2 s.n2 s.k2 (s.c1 c) s.h2 (b.o _ d.o).1.x (b.o _ d.o).2.x (b.o _ d.o).1.m2 i.o.1).mono ?_;rintro o C ⟨rfl,rfl⟩;have n2:¬((s.c2 c:Nat):Int)<0:=by omega)|(go_at_call 154;refine(Cz _ s.a3 s.n3 s.k3 (s.c2 c) s.h3 (b.o _ d.o).1.r (b.o _ d.o).2.r (b.o _ d.o).1.m3 i.o.2.1).mono ?_;rintro o D ⟨rfl,rfl⟩;have n3:¬((s.c3 c:Nat):Int)<0:=by omega)|(go_at_call 155;refine(vS _ s.a4 s.n4 s.k4 (s.c3 c) s.h4 (b.o _ d.o).1.q (b.o _ d.o).2.q (b.o _ d.o).1.m4 i.o.2.2).mono ?_;rintro o E ⟨rfl,rfl⟩;have n4:¬((s.c4 c:Nat):Int)<0:=by omega))
 go_ret;exact⟨rfl,d.o⟩
end
section
variable{n B T g cap B' T':Nat}{W w X:World}{a:Option Addr}{hs:Nat->Hd}
def A2{F:FuncId}(d:Bl w X)(f:w.heap.size+3<=X.heap.size){a:Option Addr}{n cap:Nat}{b:List R8}(h:aP w a n cap b)(k:b.length<=1048576)(hd:∀j(h:j<b.length),b[j].l.length<=1048576)(hF:F=120\/F=122:=by decide):ce F #[sL a n cap] X fun e w'=>∃g,e=rT (sL (be g) n n)/\St (w.heap.size+3) w' (fun W=>aP W (be g) n n b/\wr8 X.heap.size w'.heap.size W g n)/\Bl X w'/\Bl w w'/\w.heap.size+3<=w'.heap.size/\wt w.heap.size X w':=by
 rcases hF with rfl|rfl;all_goals
  refine(yA X a n cap b (h.below d) (by have:=h.len;omega) hd).mono ?_;rintro e w' ⟨g,rfl,h1,c⟩;have h1:=h1.mono f;exact⟨g,rfl,fun W i=>⟨(h1 W i).1,(h1 W i).2⟩,c,d.trans (c.mono d.size),nT f c.size,vN c f⟩
def uT(d:Bl w X)(f:w.heap.size+3<=X.heap.size){a:Option Addr}{n cap:Nat}{b:List R5}(h:cn w a n cap b)(k:b.length<=1048576)(hd:∀j(h:j<b.length),b[j].l.length<=1048576):ce 121 #[sL a n cap] X fun e w'=>∃g,e=rT (sL (be g) n n)/\St (w.heap.size+3) w' (fun W=>cn W (be g) n n b/\wr5 X.heap.size w'.heap.size W g n)/\Bl X w'/\Bl w w'/\w.heap.size+3<=w'.heap.size/\wt w.heap.size X w':=by
 refine(oU X a n cap b (h.below d) (by have:=h.len;omega) hd).mono ?_;rintro e w' ⟨g,rfl,h1,c⟩;have h1:=h1.mono f;exact⟨g,rfl,fun W i=>⟨(h1 W i).1,(h1 W i).2⟩,c,d.trans (c.mono d.size),nT f c.size,vN c f⟩
structure Cw(B T:Nat)(W:World)(s:Sl):Prop where
 e:∃g1 g2 g3 g4 T1 T2 T3,s=⟨sQ ⟨g1,0,nn⟩,s.n1,s.n1,be g2,s.n2,s.n2,be g3,s.n3,s.n3,be g4,s.n4,s.n4⟩/\ay W g1 (s.n1*3)/\(B<=g1/\g1<T1)/\(B<=T1/\T1<=T2/\T2<=T3/\T3<=T)/\wr8 T1 T2 W g2 s.n2/\wr5 T2 T3 W g3 s.n3/\wr8 T3 T W g4 s.n4
def wB(w:World)(H:Ho)(s:Sl)(a0:bj w H s)(hn:H.le 1048576):ce 76 #[hoV H s] w fun o w'=>∃C,o=rT (hoV H C)/\St w.heap.size w' (fun W=>bj W H C/\Cw w.heap.size w'.heap.size W C)/\Bl w w':=by
 have t:Hid (bj w H s):=a0;have j:Hid (H.le 1048576):=hn;clear a0 hn;obtain⟨c0,c1,c2,c3,A,bx,ff,qu,lo,st⟩:=H;obtain⟨a1,n1,k1,a2,n2,k2,a3,n3,k3,a4,n4,k4⟩:=s;go_enter func76,ntmps76;go_wp2_with(first|(go_at_call 118;refine(oW _ _ _ _ _).mono ?_;rintro o w1 ⟨rfl,x⟩;obtain⟨bi,b1,b9,bw,bq⟩:=vN (b:=w.heap.size) x pQ;have a5:Hid (Bl w w1):=((Zw.alloc pQ _).alloc (by simp;omega) _).trans (x.mono (by simp;omega));have am:Hid (w.heap.size+3<=w1.heap.size):=(by have:=x.size;simp at this;exact this);clear x)|(go_at_call 119;refine(uU (by(repeat refine Below.setCell ?_ (by simp;try omega) _);exact a5.o) (by simpa using am.o) t.o.fs j.o.fs).mono ?_;rintro o f ⟨h,rfl,P,L,Y,D,Z2,K2⟩;have a9:Hid (w.heap.size<=h/\h<f.heap.size):=L;clear L;obtain⟨bk,b2,bb,bA,br⟩:=K2;have ac:Hid _:=P;have b7:Hid _:=Y;have M:Hid (Bl w f):=D;have ao:Hid (w.heap.size+3<=f.heap.size):=Z2;clear P Y D Z2)|(go_at_call 120;refine(A2 (by(repeat refine Below.setCell ?_ (by simp;try omega) _);exact M.o) (by simpa using ao.o) t.o.bx j.o.bx j.o.bd).mono ?_;rintro o d ⟨k,rfl,Q,Z,E,Z3,K3⟩;obtain⟨bm,b3,bc,fr3,bs⟩:=K3;have ad:Hid _:=Q;have y:Hid _:=Z;have a6:Hid (Bl w d):=E;have ap:Hid (w.heap.size+3<=d.heap.size):=Z3;clear Q Z E Z3)|(go_at_call 121;refine(uT (by(repeat refine Below.setCell ?_ (by simp;try omega) _);exact a6.o) (by simpa using ap.o) t.o.ff j.o.ff j.o.fd).mono ?_;rintro o e ⟨l,rfl,S,X4,G,Z4,K4⟩;obtain⟨bn,b4,bf,bD,bt⟩:=K4;have af:Hid _:=S;have u:Hid _:=X4;have a7:Hid (Bl w e):=G;have aw:Hid (w.heap.size+3<=e.heap.size):=Z4;clear S X4 G Z4)|(go_at_call 122;refine(A2 (by(repeat refine Below.setCell ?_ (by simp;try omega) _);exact a7.o) (by simpa using aw.o) t.o.qu j.o.qu j.o.qd).mono ?_;rintro o i ⟨p,rfl,U,X5,K,Z5,K5⟩;obtain⟨bo,b5,bg,bE,bu⟩:=K5;have ak:Hid _:=U;have r:Hid _:=X5;have a8:Hid (Bl w i):=K;have b8:Hid (w.heap.size+3<=i.heap.size):=Z5;clear U X5 K Z5));refine Qp (v:=hoV ⟨c0,c1,c2,c3,A,bx,ff,qu,lo,st⟩ ⟨sQ ⟨h,0,nn⟩,n1,n1,be k,n2,n2,be l,n3,n3,be p,n4,n4⟩) (by simp[results,results76,go_sem,b5,b4,b3,b2,b1]) rfl ?_;have T2:St (w.heap.size+3) f (fun W=>bB W (be h) n1 n1 A/\ay W h (n1*3)):=ac.o;have T3:St (w.heap.size+3) d (fun W=>aP W (be k) n2 n2 bx/\wr8 f.heap.size d.heap.size W k n2):=by intro W c;simpa using ad.o W c
 have T4:St (w.heap.size+3) e (fun W=>cn W (be l) n3 n3 ff/\wr5 d.heap.size e.heap.size W l n3):=by intro W c;simpa using af.o W c
 have R5:St (w.heap.size+3) i (fun W=>aP W (be p) n4 n4 qu/\wr8 e.heap.size i.heap.size W p n4):=by intro W c;simpa using ak.o W c
 have b6:w.heap.size<=f.heap.size/\f.heap.size<=d.heap.size/\d.heap.size<=e.heap.size/\e.heap.size<=i.heap.size:=⟨M.o.size,by have:=y.o.size;simpa using this,by have:=u.o.size;simpa using this,by have:=r.o.size;simpa using this⟩
 have z3:f.heap.size<=d.heap.size:=by have:=y.o.size;simpa using this
 have z4:d.heap.size<=e.heap.size:=by have:=u.o.size;simpa using this
 have z5:e.heap.size<=i.heap.size:=by have:=r.o.size;simpa using this
 have N:=(((((T2.set _ 4 om _).below y.o).set _ 5 om _).below u.o).set _ 6 om _).below r.o;have R3:=(((T3.set _ 5 om _).below u.o).set _ 6 om _).below r.o;have O:=(T4.set _ 6 om _).below r.o;have R:St (w.heap.size+3) i (fun W=>bj W ⟨c0,c1,c2,c3,A,bx,ff,qu,lo,st⟩ ⟨sQ ⟨h,0,nn⟩,n1,n1,be k,n2,n2,be l,n3,n3,be p,n4,n4⟩/\Cw w.heap.size i.heap.size W ⟨sQ ⟨h,0,nn⟩,n1,n1,be k,n2,n2,be l,n3,n3,be p,n4,n4⟩):=fun W c=>⟨⟨(N W c).1,(R3 W c).1,(O W c).1,(R5 W c).1⟩,⟨⟨h,k,l,p,f.heap.size,d.heap.size,e.heap.size,rfl,(N W c).2,a9.o,b6,(R3 W c).2,(O W c).2,(R5 W c).2⟩⟩⟩
 refine⟨_,rfl,St.mono ?_ (nA _ 3),?_⟩
 .repeat refine St.set ?_ _ _ om _
  simpa using R
 .repeat refine Below.setCell ?_ (by simp;try omega) _
  exact a8.o
def wr8.sh(h:wr8 B T W g n)(k:∀j,j<n->∀a m c,W.cell? ⟨g,j*8+7,nn⟩=sQ (sL a m c)->m<=1048576):∃hs:Nat->Hd,sh8 W g n hs/\inn B T (be g) n hs:=by
 have f:∀j,∃x:Hd,j<n->W.cell? ⟨g,j*8+7,nn⟩=sQ (sL x.1 x.2.1 x.2.2)/\hd W g x/\∀b,x.1=be b->B<=b/\b<T:=by
  intro j;by_cases d:j<n
  .obtain⟨gd,m,h1,h2,h3,h4,h5⟩:=h.dat j d;exact⟨(sQ ⟨gd,0,nn⟩,m,m),fun _=>⟨h1,⟨k j d _ _ _ h1,nR _,qt ⟨gd,rfl,h3,h2⟩⟩,fun b i=>by cases i;exact⟨h4,h5⟩⟩⟩
  .exact⟨(nn,0,0),fun e=>Qj e d⟩
 refine⟨fun j=>Classical.choose (f j),⟨h.row,fun j d=>⟨(Classical.choose_spec (f j) d).1,(Classical.choose_spec (f j) d).2.1⟩⟩,fun x l=>?_⟩;rcases l with e|⟨j,d,e⟩
 .cases e;exact⟨h.lo,h.hi⟩
 .exact (Classical.choose_spec (f j) d).2.2 x e
def aP.hdr{b:List R8}(h:aP W (be g) n cap b)(hd:∀j(h:j<b.length),b[j].l.length<=1048576):∀j,j<n->∀a m c,W.cell? ⟨g,j*8+7,nn⟩=sQ (sL a m c)->m<=1048576:=by
 intro j v a m c f;have k:=h.len;obtain⟨s,off,e,i⟩:=h.cells (by intro e;subst e;simp at k;omega);cases e;obtain⟨p,x,r,d⟩:=i j om;have h1:=d.cs;rw[qg,f]at h1;cases h1;have t:=d.dat.len;have u:=hd j om;omega
def wr5.sh(h:wr5 B T W g n)(k:∀j,j<n->∀a m c,W.cell? ⟨g,j*5+4,nn⟩=sQ (sL a m c)->m<=1048576):∃hs:Nat->Hd,sh5 W g n hs/\inn B T (be g) n hs:=by
 have f:∀j,∃x:Hd,j<n->W.cell? ⟨g,j*5+4,nn⟩=sQ (sL x.1 x.2.1 x.2.2)/\hd W g x/\∀b,x.1=be b->B<=b/\b<T:=by
  intro j;by_cases d:j<n
  .obtain⟨gd,m,h1,h2,h3,h4,h5⟩:=h.dat j d;exact⟨(sQ ⟨gd,0,nn⟩,m,m),fun _=>⟨h1,⟨k j d _ _ _ h1,nR _,qt ⟨gd,rfl,h3,h2⟩⟩,fun b i=>by cases i;exact⟨h4,h5⟩⟩⟩
  .exact⟨(nn,0,0),fun e=>Qj e d⟩
 refine⟨fun j=>Classical.choose (f j),⟨h.row,fun j d=>⟨(Classical.choose_spec (f j) d).1,(Classical.choose_spec (f j) d).2.1⟩⟩,fun x l=>?_⟩;rcases l with e|⟨j,d,e⟩
 .cases e;exact⟨h.lo,h.hi⟩
 .exact (Classical.choose_spec (f j) d).2.2 x e
def cn.hdr{b:List R5}(h:cn W (be g) n cap b)(hd:∀j(h:j<b.length),b[j].l.length<=1048576):∀j,j<n->∀a m c,W.cell? ⟨g,j*5+4,nn⟩=sQ (sL a m c)->m<=1048576:=by
 intro j v a m c f;have k:=h.len;obtain⟨s,off,e,i⟩:=h.cells (by intro e;subst e;simp at k;omega);cases e;obtain⟨p,x,r,d⟩:=i j om;have h1:=d.cs;rw[qg,f]at h1;cases h1;have t:=d.dat.len;have u:=hd j om;omega
def inn.mono(h:inn B T a n hs)(hB:B'<=B)(hT:T<=T'):inn B' T' a n hs:=fun x hx=>by have:=h x hx;omega
def inn.apart{a':Option Addr}{n':Nat}{hs':Nat->Hd}(h:inn B T a n hs)(h':inn B' T' a' n' hs')(hB:T<=B'):∀x,ft a n hs x->¬ft a' n' hs' x:=fun x h1 h2=>by have:=h x h1;have:=h' x h2;omega
def inn.o(h:inn B T a n hs){x:Nat}(hx:x<B\/T<=x):¬ft a n hs x:=fun h1=>by have:=h x h1;omega
def Cw.wh{s:Sl}{H:Ho}(h:Cw B T W s)(hi:bj W H s)(b:H.le 1048576):∃l:Wh,s=l.sl/\whS B T W l/\whD l:=by
 obtain⟨C,i,j,k,U,Y,Z,e,A,p,f3,Q,R,S⟩:=h.e;have v:s.a2=be i:=by rw[e]
 have x:s.a3=be j:=by rw[e]
 have y:s.a4=be k:=by rw[e]
 have K:s.n1<=1048576:=by have:=hi.fs.len;have:=b.fs;omega
 have L:s.n2<=1048576:=by have:=hi.bx.len;have:=b.bx;omega
 have M:s.n3<=1048576:=by have:=hi.ff.len;have:=b.ff;omega
 have N:s.n4<=1048576:=by have:=hi.qu.len;have:=b.qu;omega
 have r:=hi.bx;have t:=hi.ff;have u:=hi.qu;rw[v]at r;rw[x]at t;rw[y]at u;obtain⟨D,s2,c⟩:=Q.sh (r.hdr b.bd);obtain⟨E,O,d⟩:=R.sh (t.hdr b.fd);obtain⟨G,P,f⟩:=S.sh (u.hdr b.qd);refine⟨⟨C,s.n1,s.n1,be i,s.n2,s.n2,D,be j,s.n3,s.n3,E,be k,s.n4,s.n4,G⟩,e,⟨A,nR _,⟨p.1,by simp only;omega⟩,qt ⟨i,rfl,s2,nR _⟩,c.mono om om,qt ⟨j,rfl,O,nR _⟩,d.mono om om,qt ⟨k,rfl,P,nR _⟩,f.mono om om,K,L,M,N⟩,⟨c.o (qp p.2),d.o (qp (by simp only;omega)),f.o (qp (by simp only;omega)),c.apart d (nR _),c.apart f om,d.apart f (nR _)⟩⟩
end
def esZ(p t r:Int):Int:=if p=7 then 2 else if 128<=t\/128<=r then 1 else 0
def sB(w:World)(p t r:Int):ce 106 #[I J p,I J t,I J r] w fun o w'=>o=rT (I J (esZ p t r))/\w=w':=by
 by_cases h:p=7
 .have a:Hid (esZ p t r=2):=by unfold Hid esZ;rw[QW h]
  have hd:(p==7)=true:=by simpa using h
  clear h;go_enter func106,ntmps106;go_wp2;go_ret;exact⟨aL a.o.symm,rfl⟩
 .have hd:(p==7)=false:=by simpa using h
  by_cases c:128<=t
  .have a:Hid (esZ p t r=1):=by unfold Hid esZ;rw[QV h,QW (.inl c)]
   have d:decide (128<=t)=true:=by simpa using c
   clear h;go_enter func106,ntmps106;go_wp2;go_ret;exact⟨aL a.o.symm,rfl⟩
  .have d:decide (128<=t)=false:=by simpa using c
   by_cases b:128<=r
   .have a:Hid (esZ p t r=1):=by unfold Hid esZ;rw[QV h,QW (.inr b)]
    have e:decide (128<=r)=true:=by simpa using b
    clear h;go_enter func106,ntmps106;go_wp2;go_ret;exact⟨aL a.o.symm,rfl⟩
   .have e:decide (128<=r)=false:=by simpa using b
    have a:Hid (esZ p t r=0):=by unfold Hid esZ;rw[QV h,QV om]
    clear h;go_enter func106,ntmps106;go_wp2;go_ret;exact⟨aL a.o.symm,rfl⟩
def rM(w:World)(p t r:Int)(b:Bool)(a:b=decide (p=7)):ce 269 #[bO b,I J t,I J r] w fun o w'=>o=rT (I J (esZ p t r))/\w=w':=by
 by_cases h:p=7
 .have HZ:Hid (esZ p t r=2):=by unfold Hid esZ;rw[QW h]
  have hd:b=true:=by rw[a];simpa using h
  subst hd;clear a h;go_enter func269,ntmps269;go_wp2;go_ret;exact⟨aL HZ.o.symm,rfl⟩
 .have hd:b=false:=by rw[a];simpa using h
  subst hd;by_cases c:128<=max t r
  .have HZ:Hid (esZ p t r=1):=by unfold Hid esZ;rw[QV h,QW om]
   clear a h;have d:decide (128<=max t r)=true:=by simpa using c
   go_enter func269,ntmps269;go_wp2;all_goals
    go_ret;exact⟨aL HZ.o.symm,rfl⟩
  .have HZ:Hid (esZ p t r=0):=by unfold Hid esZ;rw[QV h,QV om]
   clear a h;have d:decide (128<=max t r)=false:=by simpa using c
   go_enter func269,ntmps269;go_wp2;all_goals
    go_ret;exact⟨aL HZ.o.symm,rfl⟩
def rLo(p:Int):Int:=if p=4 then 1 else 0
def rHi(p:Int):Int:=if p=2 then 5 else if p=3 then 15 else if p=4 then 7 else if p=5 then 2 else if p=6 then 7 else if p=7 then 10 else 0
def um(w:World)(p:Int):ce 100 #[I J p] w fun o w'=>o=rT (.tuple #[I J (rLo p),I J (rHi p)])/\w=w':=by
 by_cases b:p=2
 .subst b;go_enter func100,ntmps100;go_wp2;go_ret2
  exact⟨rfl,rfl⟩
 by_cases c:p=3
 .subst c;go_enter func100,ntmps100;go_wp2;go_ret2
  exact⟨rfl,rfl⟩
 by_cases a:p=4
 .subst a;go_enter func100,ntmps100;go_wp2;go_ret2
  exact⟨rfl,rfl⟩
 by_cases d:p=5
 .subst d;go_enter func100,ntmps100;go_wp2;go_ret2
  exact⟨rfl,rfl⟩
 by_cases e:p=6
 .subst e;go_enter func100,ntmps100;go_wp2;go_ret2
  exact⟨rfl,rfl⟩
 by_cases f:p=7
 .subst f;go_enter func100,ntmps100;go_wp2;go_ret2
  exact⟨rfl,rfl⟩
 have g:Hid (rLo p=0/\rHi p=0):=by unfold Hid rLo rHi;rw[QV a,QV b,QV c,QV a,QV d,QV e,QV f];exact⟨rfl,rfl⟩
 have h:(p==2)=false:=by simpa using b
 have i:(p==3)=false:=by simpa using c
 have j:(p==4)=false:=by simpa using a
 have k:(p==5)=false:=by simpa using d
 have l:(p==6)=false:=by simpa using e
 have n:(p==7)=false:=by simpa using f
 clear b c a d e f;go_enter func100,ntmps100;go_wp2;go_ret2
 exact⟨by rw[g.o.1,g.o.2];rfl,rfl⟩
def info108:(Tp.info? 108).map (fun i=>(i.zero,i.size,i.bytes))=some (some (I .u64 0),1,8):=kr
structure Er(w:World)(g n:Nat)(f:Nat->Nat):Prop where
 cell:∀t,t<n->w.cell? ⟨g,t,none⟩=some (I .u64 (f t:Int))
 free:∀t,t<n->w.frozen? ⟨g,t,none⟩=false
structure ah(w:World)(a:Option Addr)(n cap:Nat)(l:List Nat):Prop where
 len:n=l.length
 cap:n<=cap
 small:∀x∈l,x<18446744073709551616
 cells:l≠[]->∃g off,a=some ⟨g,off,none⟩/\∀j(h:j<l.length),w.cell? ⟨g,off+j,none⟩=some (I .u64 (l[j]:Int))
def ah.below{w w':World}{a:Option Addr}{n cap:Nat}{l:List Nat}(h:ah w a n cap l)(c:Bl w w'):ah w' a n cap l:=by
 refine⟨h.len,h.cap,h.small,fun f=>?_⟩;obtain⟨g,off,b,d⟩:=h.cells f;refine⟨g,off,b,fun j e=>?_⟩;have h1:=d j e;rw[c.cell (Qn w _ h1)];exact h1
abbrev pkV(N:Int)(a:Option Addr)(n cap:Nat):Value:=aG #[I J N,sL a n cap]
abbrev pkC(N:Int)(a:Option Addr)(n cap:Nat)(T:TypeId):Obj:=.cells #[I J N,sL a n cap] T
def lev(l:List Nat)(i:Nat):Nat:=l.getD (i / 64) 0 / 2 ^ (63-i%64)%2
def Cn(x r:Nat)(a:x<18446744073709551616):wrap64 (bits BinOp.and IntKind.u64 ((x:Int) / 2 ^ (63-r)) 1)=((x / 2 ^ (63-r)%2:Nat):Int):=by
 have e:(x:Int) / 2 ^ (63-r)=((x / 2 ^ (63-r):Nat):Int):=by push_cast;rfl
 have hy:x / 2 ^ (63-r)<18446744073709551616:=zb (Nat.div_le_self _ _) a;rw[e];generalize x / 2 ^ (63-r)=y at*;have:=u64_and_nat y 1 hy (by decide);rw[show((1:Nat):Int)=1 from rfl]at this;rw[this,Nat.and_one_is_mod];unfold wrap64;omega
def dc{F:FuncId}(w:World)(N:Int)(a:Option Addr)(n cap:Nat)(l:List Nat)(h:ah w a n cap l)(i:Nat)(hi:i<64*n)(hn:n<=1048576)(hF:F=195\/F=71:=by decide):ce F #[pkV N a n cap,I J (i:Int)] w fun o w'=>o=rT (I J (lev l i:Int))/\w'=w.alloc (pkC N a n cap 56):=by
 have hl:l≠[]:=by intro e;subst e;have:=h.len;simp at this;omega
 obtain⟨g,off,rfl,hc⟩:=h.cells hl;have hgz:g<w.heap.size:=Qn w _ (hc 0 (by have:=List.length_pos_iff.2 hl;omega));have hll:i / 64<l.length:=by have:=h.len;omega
 have hcx:=hc (i / 64) hll;have hlt:i / 64<n:=om;have hr:i%64<64:=om;have HL:Hid (l.getD (i / 64) 0=l[i / 64]'hll):=eK l _ hll;have HX0:=h.small _ (ql (l:=l) (n:=i / 64) hll);have hx:Hid (l[i / 64]'(hll)<18446744073709551616):=HX0;clear HX0 h hc;generalize hxx:l[i / 64]'hll=x at*;have HV:Hid (lev l i=x / 2 ^ (63-i%64)%2):=by unfold Hid lev;rw[HL.o]
 have e3:(i:Int).tdiv 64=((i / 64:Nat):Int):=by rw[zc om];omega
 have e4:(i:Int).tmod 64=((i%64:Nat):Int):=by rw[QZ om];omega
 generalize lev l i=L at*;clear HL;clear hxx;clear hll;generalize i / 64=q at*;generalize i%64=r at*;rcases hF with rfl|rfl
 all_goals
  first|go_enter func195,ntmps195|go_enter func71,ntmps71
  go_wp2;go_ret;exact⟨aL (by rw[HV.o];exact Cn x r hx.o),rfl⟩
def oO{F:FuncId}(w:World)(N:Int)(a:Option Addr)(n cap:Nat)(h:N<0\/0<=N/\4000<N)(hF:F=194\/F=117:=by decide):ce F #[pkV N a n cap] w fun o w'=>o=rT (bO false)/\w'=w.alloc (pkC N a n cap 56):=by
 rcases hF with rfl|rfl<;>rcases h with h|⟨h0,h⟩
 all_goals
  first|go_enter func194,ntmps194|go_enter func117,ntmps117
  go_wp2;go_ret;exact⟨rfl,rfl⟩
def D6(w:World)(N:Nat)(a:Option Addr)(n cap:Nat)(h:N<=4000)(m:Nat)(b:m<=1048576)(c:((N:Int)+64-1).tdiv 64=(m:Int))(hne:((n:Int) !=(m:Int))=true):ce 194 #[pkV (N:Int) a n cap] w fun o w'=>o=rT (bO false)/\w'=w.alloc (pkC (N:Int) a n cap 56):=by
 go_enter func194,ntmps194;go_wp2;go_ret;exact⟨rfl,rfl⟩
def Bu(w:World)(N:Nat)(a:Option Addr)(n cap:Nat)(h:N<=4000)(b:n<=1048576)(c:((N:Int)+64-1).tdiv 64=(n:Int))(d:(N:Int).tmod 64=0):ce 194 #[pkV (N:Int) a n cap] w fun o w'=>o=rT (bO true)/\w'=w.alloc (pkC (N:Int) a n cap 56):=by
 go_enter func194,ntmps194;go_wp2;go_ret;exact⟨rfl,rfl⟩
def D5(w:World)(N:Nat)(g off:Nat)(cap x:Nat)(c:g<w.heap.size)(a:N<=4000)(n1:Nat)(d:n1+1<=1048576)(e:((N:Int)+64-1).tdiv 64=((n1:Int)+1))(b:w.cell? ⟨g,off+n1,none⟩=some (I .u64 (x:Int)))(r:Nat)(f:(N:Int).tmod 64=(r:Int))(h:((r:Int)==0)=false)(i:r<64):ce 194 #[pkV (N:Int) (some ⟨g,off,none⟩) (n1+1) cap] w fun o w'=>o=rT (bO (IntKind.u64.wrap ((x:Int)*2 ^ r)==0))/\Bl w w':=by
 go_enter func194,ntmps194;go_wp2;go_quiet (fail);go_wp2;go_ret;exact⟨rfl,QB Zw _⟩
def th(x k:Nat):(x / 2 ^ k%2=0)↔x.testBit k=false:=by
 rw[Nat.testBit_eq_decide_div_mod_eq];have:x / 2 ^ k%2<2:=Qc _ (by decide);simp
def zj(x r:Nat)(c:r<64):(x*2 ^ r%2 ^ 64=0)↔∀j,r<=j->j<64->x / 2 ^ (63-j)%2=0:=by
 have e:(2:Nat) ^ 64=2 ^ (64-r)*2 ^ r:=by rw[<- Nat.pow_add];congr 1;omega
 rw[e,Nat.mul_mod_mul_right];have b:0<2 ^ r:=qR pQ;constructor
 .intro h j h1 h2;rw[th];have h0:x%2 ^ (64-r)=0:=by
   rcases Nat.mul_eq_zero.1 h with h|h
   .exact h
   .omega
  have:=Nat.testBit_mod_two_pow x (64-r) (63-j);rw[h0,Nat.zero_testBit]at this;have hd:decide (63-j<64-r)=true:=by simp;omega
  rw[hd,Bool.true_and]at this;exact this.symm
 .intro h;have h0:x%2 ^ (64-r)=0:=by
   apply Nat.eq_of_testBit_eq;intro k;rw[Nat.testBit_mod_two_pow,Nat.zero_testBit];by_cases a:k<64-r
   .have:=h (63-k) om om;rw[th,show 63-(63-k)=k by omega]at this;simp[this]
   .simp[a]
  rw[h0,Nat.zero_mul]
def rq(x r:Nat):IntKind.u64.wrap ((x:Int)*2 ^ r)=((x*2 ^ r%2 ^ 64:Nat):Int):=by
 have e:(x:Int)*2 ^ r=((x*2 ^ r:Nat):Int):=by push_cast;rfl
 rw[e];generalize x*2 ^ r=y;rw[IntKind.wrap_u64];omega
def xa(l:List Nat)(N n:Nat):Bool:=(List.range (64*n)).all fun i=>decide (i<N)||decide (lev l i=0)
def iv{l:List Nat}{N n:Nat}:xa l N n=true↔∀i,N<=i->i<64*n->lev l i=0:=by
 simp only[xa,qW,List.mem_range,Bool.or_eq_true,qK];constructor
 .intro h i h1 h2;rcases h i h2 with h|h
  .omega
  .exact h
 .intro h i h2;by_cases h1:i<N
  .exact .inl h1
  .exact .inr (h i om h2)
def okP(N:Int)(l:List Nat):Bool:=decide (0<=N)&&decide (N<=4000)&&decide (l.length=(N.toNat+63) / 64)&&xa l N.toNat l.length
def ey(w:World)(N:Int)(a:Option Addr)(n cap:Nat)(l:List Nat)(h:ah w a n cap l)(s:n<=1048576):ce 194 #[pkV N a n cap] w fun o w'=>o=rT (bO (okP N l))/\Bl w w':=by
 have d:Bl w (w.alloc (pkC N a n cap 56)):=Zw;have A:=h.len;by_cases h0:0<=N
 case neg=>
  refine(oO w N a n cap (.inl om)).mono ?_;rintro o w' ⟨rfl,rfl⟩;exact⟨ai (by simp[okP,h0]),d⟩
 by_cases h1:N<=4000
 case neg=>
  refine(oO w N a n cap (.inr ⟨h0,om⟩)).mono ?_;rintro o w' ⟨rfl,rfl⟩;exact⟨ai (by simp[okP,h1]),d⟩
 obtain⟨M,rfl⟩:∃M:Nat,N=(M:Int):=⟨N.toNat,om⟩
 have f:((M:Int)+64-1).tdiv 64=(((M+63) / 64:Nat):Int):=by rw[zc om];omega
 have t:(M:Int).tmod 64=((M%64:Nat):Int):=by rw[QZ om];omega
 by_cases k:n=(M+63) / 64
 case neg=>
  refine(D6 w M a n cap om ((M+63) / 64) om f (by simp;omega)).mono ?_;rintro o w' ⟨rfl,rfl⟩;refine⟨ai ?_,d⟩;have:¬l.length=(M+63) / 64:=om;simp[okP,this]
 have u:l.length=(M+63) / 64:=om;have B:okP (M:Int) l=xa l M l.length:=by
  have D:M<=4000:=om;simp[okP,<- u];omega
 rw[B];by_cases v:M%64=0
 .refine (Bu w M a n cap om s (by rw[f,k]) (by rw[t,v];rfl)).mono ?_;rintro o w' ⟨rfl,rfl⟩;exact⟨ai (iv.2 (fun i b c=>by omega)).symm,d⟩
 .obtain⟨n1,hn1⟩:∃n1,n=n1+1:=⟨n-1,om⟩
  subst hn1;have hne:l≠[]:=by intro e;subst e;simp at A
  obtain⟨g,off,rfl,p⟩:=h.cells hne;have y:g<w.heap.size:=Qn w _ (p 0 om);refine(D5 w M g off cap (l[n1]'om) y om n1 s (by rw[f,<- k];push_cast;rfl) (p n1 om) (M%64) t (by simp;omega) om).mono ?_;rintro o w' ⟨rfl,x⟩;refine⟨ai ?_,x⟩;have r:∀i,M<=i->i<64*l.length->lev l i=(l[n1]'om) / 2 ^ (63-i%64)%2:=by
   intro i b c;have:i / 64=n1:=om;unfold lev;rw[this,eK l n1 om]
  rw[Q0,iv,rq,beq_iff_eq];have C:(((l[n1]'om)*2 ^ (M%64)%2 ^ 64:Nat):Int)=0↔(l[n1]'om)*2 ^ (M%64)%2 ^ 64=0:=om;rw[C,zj _ _ om];constructor
  .intro hh i b c;rw[r i b c];exact hh (i%64) om om
  .intro hh j b c;have:=hh (64*n1+j) om om;rw[r _ om om,show(64*n1+j)%64=j by omega]at this;exact this
def nX{w wr:World}{N:Int}{a:Option Addr}{n cap:Nat}(b:Below (w.heap.size+1) (w.alloc (pkC N a n cap 56)) wr):wr.cell? ⟨w.heap.size,0,none⟩=some (I J N)/\wr.cell? ⟨w.heap.size,1,none⟩=some (sL a n cap)/\Bl w wr:=by
 refine⟨(b.cell (p:=⟨w.heap.size,0,none⟩) pQ).trans pQ,(b.cell (p:=⟨w.heap.size,1,none⟩) pQ).trans pQ,?_⟩;exact Zw.trans (b.mono om)
def pZ(w:World)(a1 a2:Option Addr)(n1 c1 n2 c2:Nat)(l:List Nat)(h1:ah w a1 n1 c1 l)(a:ah w a2 n2 c2 l)(p:n1<=1048576):ce 87 #[sL a1 n1 c1,sL a2 n2 c2] w fun o w'=>o=rT (bO true)/\∃q,w'=w.drewN q:=by
 have b:=h1.len;have c:=a.len;by_cases d:l=[]
 .subst d;have e:n1=0:=b;have f:n2=0:=c;subst e f;clear b c h1 a;go_enter func87,ntmps87;go_wp2;go_loopw [5] (fun i wr=>i=I J 0/\wr=w) (fun _ _=>0);case atStart=>exact⟨rfl,rfl⟩
  case round=>
   obtain⟨rfl,rfl⟩:=hrel;go_wp2;go_ret;exact⟨rfl,0,rfl⟩
 .obtain⟨g1,o1,rfl,k1⟩:=h1.cells d;obtain⟨h,s,rfl,k2⟩:=a.cells d;have g:n2=n1:=om;subst g;have r:n2<=l.length:=om;clear b c h1 a;go_enter func87,ntmps87;go_wp2;go_loopw [5] (fun i wr=>∃k:Nat,k<=n2/\i=I J k/\∃q,wr=w.drewN q) (fun i _=>n2-(intOf i).toNat);case atStart=>exact⟨0,nZ _,rfl,0,rfl⟩
  case round=>
   obtain⟨k,j,rfl,q,rfl⟩:=hrel;by_cases n:k<n2
   .have c1:=k1 k om;have c2:=k2 k om;generalize l[k]=x at*;go_wp2;go_quiet (fail);go_wp2;go_roundw;case rel=>exact⟨k+1,om,by go_num,_,rfl⟩
    case measure=>simp[intOf];omega
   .go_wp2;go_ret;exact⟨rfl,_,rfl⟩
def nu(w:World)(N:Int)(a:Option Addr)(n cap:Nat)(l:List Nat)(h:ah w a n cap l)(b:Option Addr)(d c:Nat)(f:ah w b d c l)(k:n<=1048576):ce 33 #[pkV N a n cap,pkV N b d c] w fun o w'=>o=rT (bO true)/\Bl w w':=by
 have i:Hid (ah w a n cap l):=h;have j:Hid (ah w b d c l):=f;clear h f;have p:(N !=N)=false:=pQ;have g:Bl w ((w.alloc (pkC N a n cap 56)).alloc (pkC N b d c 56)):=Zw.alloc pQ _;have e:Hid (Bl w ((w.alloc (pkC N a n cap 56)).alloc (pkC N b d c 56))):=g;clear g;go_enter func33,ntmps33;go_wp2_with(go_at_call 87;refine(pZ _ _ _ _ _ _ _ l (i.o.below e.o) (j.o.below e.o) k).mono ?_;rintro o r ⟨rfl,q,rfl⟩);go_ret;exact⟨rfl,QB e.o q⟩
end Go.Proofs.YtbbffcolnddcdaaGreatDoor
