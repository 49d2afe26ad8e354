import Derived.Shelf.SlicesE.Clone
import Derived.Test.YtbbffcolnddcdaaGreatDoorK05
import Derived.Test.YtbbffcolnddcdaaGreatDoorProg
import Derived.WalkKit
import Derived.WalkSpells
import Derived.WalkLawsBesides
import Derived.Deep.QuietTactic
import Derived.BigQuiet
import Derived.Below
import Derived.Laws.BitsAllLaws
import Derived.Laws.IdiomStrings
import Derived.Deep.RegionWith
import Derived.Deep.MidRow
import Derived.Maps.AppendAt
namespace Go.Proofs.YtbbffcolnddcdaaGreatDoor
open Go.Proofs.Tryz
set_option linter.all false
open Option renaming none->nn,some->sQ
open Go.Shelf Go.RowKit
open Go.Value renaming int->I,slice->sL,bool->bO,pointer->pT,agg->aG
open Go.IntKind renaming i64->J
open Go.Ending renaming returned->rT
open Go.Proofs.Tryz renaming prog->Tp
section
variable{w:World}{n:Nat}{bs:List R3}
def Tryz.laysE41_ren:Go.Shelf.Ren:=⟨fun|41=>210|n=>n,fun|22=>45|23=>147|n=>n,fun|n=>n⟩
def Tryz.laysE41:Go.Proofs.SlLaysE0.n41 Tp Tryz.laysE41_ren:={
 mixed:=kr
 f41:=⟨Tryz.f210.name,by kernel_rfl,func210.trans (congrArg sQ kr)⟩
 t4:=underlying4
 a4:=isAgg4
 z4:=sizeOf4
 v4:=zeroValue4
 t22:=underlying45
 a22:=isAgg45
 z22:=sizeOf45
 v22:=zeroValue45}
def c3(bs:List R3):List Value:=bs.flatMap fun b=>[bO b.e,I .u32 b.m,I .u32 b.k]
def uV(bs:List R3):(c3 bs).length=bs.length*3:=by
 induction bs with
 |nil=>rfl
 |cons b bs ih=>simp only[c3,qD,QX,qV,List.length_nil]at ih ⊢;omega
def vW(bs:List R3):∀j(h:j<bs.length),(c3 bs)[j*3]?=sQ (bO bs[j].e)/\(c3 bs)[j*3+1]?=sQ (I .u32 bs[j].m)/\(c3 bs)[j*3+2]?=sQ (I .u32 bs[j].k):=by
 induction bs with
 |nil=>intro j h;exact Qj h (nN _)
 |cons b bs ih=>
  intro j h;cases j with
  |zero=>exact⟨rfl,rfl,rfl⟩
  |succ j=>
   have:=ih j (by simpa using h);have e:∀t,(c3 (b::bs))[(t+3)]?=(c3 bs)[t]?:=fun t=>by simp[c3,qD]
   have a:(j+1)*3=j*3+3:=om;have c:(j+1)*3+1=(j*3+1)+3:=om;have d:(j+1)*3+2=(j*3+2)+3:=om;rw[a,e,show j*3+3+1=(j*3+1)+3 by omega,e,show j*3+3+2=(j*3+2)+3 by omega,e];exact this
def CZ{g cap:Nat}(h:bB w (be g) n cap bs)(t:Nat)(u:Value)(a:(c3 bs)[t]?=sQ u):w.cell? ⟨g,0+t,nn⟩=sQ u:=by
 have p:t<bs.length*3:=by
  have:=(List.getElem?_eq_some_iff.mp a).1;rwa [uV]at this
 have b:t / 3<bs.length:=om;have hne:bs≠[]:=by intro e;subst e;simp at b
 obtain⟨l,off,i,j⟩:=h.cells hne;cases i;have x:=j (t / 3) b;obtain⟨c,d,f⟩:=vW bs (t / 3) b;have k:t%3=0\/t%3=1\/t%3=2:=om;rcases k with r|r|r
 .have e:t=t / 3*3:=om;rw[<- e]at c;have:=x.c0;rw[<- e]at this;rw[this,<- c,a]
 .have e:t=t / 3*3+1:=om;rw[<- e]at d;have:=x.c1;rw[Nat.add_assoc,<- e]at this;rw[this,<- d,a]
 .have e:t=t / 3*3+2:=om;rw[<- e]at f;have:=x.c2;rw[Nat.add_assoc,<- e]at this;rw[this,<- f,a]
def Fx(bs:List R3):∀u∈c3 bs,u.oneCell'=true:=by
 intro u a;simp only[c3,List.mem_flatMap,Qh,Q8,or_false]at a;obtain⟨b,_,rfl|rfl|rfl⟩:=a<;>rfl
def ou(w:World)(g n cap:Nat)(bs:List R3)(h:bB w (be g) n cap bs)(k:n<=1048576):ce 210 #[sL (be g) n cap] w fun e w'=>∃a,e=rT a/\w'.ownsRow w.heap.size 147 3 a n (c3 bs)/\a≠sL nn 0 0/\Bl w w':=by
 obtain⟨i,hi,c,d,f⟩:=QH info147;exact AnyE.slices_Clone Tryz.laysE41 i _ 3 12 hi c d f rfl om sizeOf147 g 0 n cap (c3 bs) w (by rw[uV,h.len]) (by unfold maxLen;omega) om (fun j u b=>CZ h j u b) (Fx bs)
def CY{B:Nat}{v:Value}(k:n=bs.length)(ho:w.ownsRow B 147 3 v n (c3 bs))(x:v≠sL nn 0 0):∃g cap,v=sL (be g) n cap/\B<=g/\g<w.heap.size/\n<=cap/\bU w g (n*3)/\St B w (fun W=>bB W (be g) n cap bs):=by
 rcases ho.2 with⟨e,_⟩|⟨g,cap,cur,l,f,d,i,D,E,u⟩
 .exact Qj e x
 .have hlt:g<w.heap.size:=by
   rcases Nat.lt_or_ge g w.heap.size with h|h
   .exact h
   .rw[Array.getElem?_eq_none h]at d;cases d
  have p:∀t,t<n*3->cur[t]?=(c3 bs)[t]?:=by
   intro t a;rw[<- u,qO a,qN]
  have b:∀W:World,W.heap[g]?=w.heap[g]?->∀t,t<n*3->W.cell? ⟨g,t,nn⟩=(c3 bs)[t]?:=by
   intro W c t a;have e:=c.trans d;rw[<- p t a];simp[World.cell?,e]
  refine⟨g,cap,l,f,hlt,i,⟨fun t a=>?_,fun t=>?_⟩,fun W c=>⟨k,i,fun hne=>⟨g,0,rfl,fun j r=>?_⟩⟩⟩
  .rw[b w rfl t a];have s:t<(c3 bs).length:=by rw[uV,<- k];exact a
   exact⟨_,Q4 s⟩
  .subst l;exact QF ho t
  .have e:=c g f hlt;obtain⟨y,A,C⟩:=vW bs j r;exact⟨(by rw[qg];exact(b W e _ om).trans y),(by rw[qg];exact(b W e _ om).trans A),(by rw[qg];exact(b W e _ om).trans C)⟩
end
open Go.RowKit
section
variable{W w:World}{g:Nat}
def ER(w:World)(c:Nat):ce 149 #[sL none 0 0,I J (c:Int)] w fun o w'=>o=rT (I J (c:Int))/\w'=w:=by
 go_enter func149,ntmps149;go_wp2;go_loopw [1,5] (fun a i wr=>i=I J 0/\a=I J (c:Int)/\wr=w) (fun _ _ _=>0);case atStart=>exact⟨rfl,rfl,rfl⟩
 case round=>
  obtain⟨rfl,rfl,rfl⟩:=hrel;go_wp2;go_ret;exact⟨rfl,rfl⟩
def EP(w:World)(c:Nat):ce 150 #[sL none 0 0,I J (c:Int)] w fun o w'=>o=rT (I J (c:Int))/\w'=w:=by
 go_enter func150,ntmps150;go_wp2;go_loopw [1,5] (fun a i wr=>i=I J 0/\a=I J (c:Int)/\wr=w) (fun _ _ _=>0);case atStart=>exact⟨rfl,rfl,rfl⟩
 case round=>
  obtain⟨rfl,rfl,rfl⟩:=hrel;go_wp2;go_ret;exact⟨rfl,rfl⟩
def EM(w:World)(c:Nat):ce 154 #[sL none 0 0,I J (c:Int)] w fun o w'=>o=rT (I J (c:Int))/\w'=w:=by
 go_enter func154,ntmps154;go_wp2;go_loopw [1,5] (fun a i wr=>i=I J 0/\a=I J (c:Int)/\wr=w) (fun _ _ _=>0);case atStart=>exact⟨rfl,rfl,rfl⟩
 case round=>
  obtain⟨rfl,rfl,rfl⟩:=hrel;go_wp2;go_ret;exact⟨rfl,rfl⟩
def EL(w:World)(c:Nat):ce 155 #[sL none 0 0,I J (c:Int)] w fun o w'=>o=rT (I J (c:Int))/\w'=w:=by
 go_enter func155,ntmps155;go_wp2;go_loopw [1,5] (fun a i wr=>i=I J 0/\a=I J (c:Int)/\wr=w) (fun _ _ _=>0);case atStart=>exact⟨rfl,rfl,rfl⟩
 case round=>
  obtain⟨rfl,rfl,rfl⟩:=hrel;go_wp2;go_ret;exact⟨rfl,rfl⟩
def bU.up{N:Nat}(h:bU w g N)(he:W.heap[g]?=w.heap[g]?):bU W g N:=
 ⟨fun t ht=>by obtain⟨v,hv⟩:=h.cell t ht;exact⟨v,cU hv he⟩,fun t=>by have:=h.free t;simp only[World.frozen?,he]at this ⊢;exact this⟩
def eV(a:W.heap[g]?=w.heap[g]?)(o:Nat):W.cell? ⟨g,o,none⟩=w.cell? ⟨g,o,none⟩:=by simp only[World.cell?,a]
end
set_option maxRecDepth 20000
set_option maxHeartbeats 16000000
def ET(w:World)(c:Nat):ce 147 #[sL nn 0 0,I J (c:Int)] w fun o w'=>o=rT (I J (c:Int))/\w'=w:=by
 go_enter func147,ntmps147;go_wp2;go_loopw [1,5] (fun a i wr=>i=I J 0/\a=I J (c:Int)/\wr=w) (fun _ _ _=>0);case atStart=>exact⟨rfl,rfl,rfl⟩
 case round=>
  obtain⟨rfl,rfl,rfl⟩:=hrel;go_wp2;go_ret;exact⟨rfl,rfl⟩
def ES(w:World)(c:Nat):ce 148 #[sL nn 0 0,I J (c:Int)] w fun o w'=>o=rT (I J (c:Int))/\w'=w:=by
 go_enter func148,ntmps148;go_wp2;go_loopw [1,5] (fun a i wr=>i=I J 0/\a=I J (c:Int)/\wr=w) (fun _ _ _=>0);case atStart=>exact⟨rfl,rfl,rfl⟩
 case round=>
  obtain⟨rfl,rfl,rfl⟩:=hrel;go_wp2;go_ret;exact⟨rfl,rfl⟩
def EO(w:World)(c:Nat):ce 152 #[sL nn 0 0,I J (c:Int)] w fun o w'=>o=rT (I J (c:Int))/\w'=w:=by
 go_enter func152,ntmps152;go_wp2;go_loopw [1,5] (fun a i wr=>i=I J 0/\a=I J (c:Int)/\wr=w) (fun _ _ _=>0);case atStart=>exact⟨rfl,rfl,rfl⟩
 case round=>
  obtain⟨rfl,rfl,rfl⟩:=hrel;go_wp2;go_ret;exact⟨rfl,rfl⟩
def EN(w:World)(c:Nat):ce 153 #[sL nn 0 0,I J (c:Int)] w fun o w'=>o=rT (I J (c:Int))/\w'=w:=by
 go_enter func153,ntmps153;go_wp2;go_loopw [1,5] (fun a i wr=>i=I J 0/\a=I J (c:Int)/\wr=w) (fun _ _ _=>0);case atStart=>exact⟨rfl,rfl,rfl⟩
 case round=>
  obtain⟨rfl,rfl,rfl⟩:=hrel;go_wp2;go_ret;exact⟨rfl,rfl⟩
def pD(w:World)(a c1 c2 c3 lo st:Int)(c:Nat)(b:c<=1000):ce 88 #[aG #[I J a,I J c1,I J c2,I J c3,sL nn 0 0,sL nn 0 0,sL nn 0 0,sL nn 0 0,I J lo,I J st],I J (c:Int)] w fun o w'=>o=rT (I J (c:Int))/\Bl w w':=by
 have h:¬(c:Int)<0:=om;go_enter func88,ntmps88;go_wp2_with(first|(go_at_call 147;refine(ET _ c).mono ?_;rintro o d ⟨rfl,rfl⟩)|(go_at_call 148;refine(ES _ c).mono ?_;rintro o e ⟨rfl,rfl⟩)|(go_at_call 149;refine(ER _ c).mono ?_;rintro o f ⟨rfl,rfl⟩)|(go_at_call 150;refine(EP _ c).mono ?_;rintro o g ⟨rfl,rfl⟩));go_ret;exact⟨rfl,(bW w.heap.size w).alloc (nR _) _⟩
def pR(w:World)(a c1 c2 c3 lo st:Int)(c:Nat)(b:c<=1000):ce 91 #[aG #[I J a,I J c1,I J c2,I J c3,sL nn 0 0,sL nn 0 0,sL nn 0 0,sL nn 0 0,I J lo,I J st],I J (c:Int)] w fun o w'=>o=rT (I J (c:Int))/\Bl w w':=by
 have h:¬(c:Int)<0:=om;go_enter func91,ntmps91;go_wp2_with(first|(go_at_call 152;refine(EO _ c).mono ?_;rintro o d ⟨rfl,rfl⟩)|(go_at_call 153;refine(EN _ c).mono ?_;rintro o e ⟨rfl,rfl⟩)|(go_at_call 154;refine(EM _ c).mono ?_;rintro o f ⟨rfl,rfl⟩)|(go_at_call 155;refine(EL _ c).mono ?_;rintro o g ⟨rfl,rfl⟩));go_ret;exact⟨rfl,(bW w.heap.size w).alloc (nR _) _⟩
def bx0:R8:=⟨0,0,0,false,0,false,0,[]⟩
def tT(w:World)(l:List Value)(T:TypeId):bU (w.alloc (.cells l.toArray T)) w.heap.size l.length:=by
 have e:(w.alloc (.cells l.toArray T)).heap[w.heap.size]?=some (.cells l.toArray T):=Qy w _;refine⟨fun t a=>?_,fun t=>?_⟩
 .have:=fN e 0 l.length om t a;rw[qg]at this;exact Option.isSome_iff_exists.1 this.1
 .unfold World.frozen?;rw[e];simp
def Gi:(Tp.info? 44).map (·.size)=some 4:=kr
open Go.IntKind renaming i64->J,u32->Zk
section
variable{w:World}{B:Nat}{v:Value}{l:List Nat}
def av{g:Nat}{o:Obj}(a:w.heap[g]?=sQ o):g<w.heap.size:=by
 rcases Nat.lt_or_ge g w.heap.size with h|h
 .exact h
 .rw[Array.getElem?_eq_none h]at a;cases a
def gn{n E b:Nat}{xs:List Value}(ho:w.ownsRow B E b v n xs)(k:v≠sL nn 0 0):∃g cap,v=sL (be g) n cap/\B<=g/\g<w.heap.size/\n<=cap/\∀W:World,W.heap[g]?=w.heap[g]?->∀t,t<n*b->W.cell? ⟨g,t,nn⟩=xs[t]?:=by
 rcases ho.2 with⟨e,_⟩|⟨g,cap,cur,p,d,a,f,r,s,j⟩
 .exact Qj e k
 .refine⟨g,cap,p,d,av a,f,fun W c t i=>?_⟩;have h:cur[t]?=xs[t]?:=by rw[<- j,qO i,qN]
  have e:=c.trans a;rw[<- h];simp[World.cell?,e]
def iw(h:ae w B v l)(i:v≠sL nn 0 0)(f:∀x∈l,x<256):∃g k,v=sL (be g) l.length k/\B<=g/\g<w.heap.size/\St B w (fun W=>iB W (be g) l.length k l):=by
 obtain⟨g,cap,rfl,h1,a,b,c⟩:=gn h i;refine⟨g,cap,rfl,h1,a,fun W d=>⟨rfl,b,f,fun _=>⟨g,0,rfl,fun j e=>?_⟩⟩⟩;rw[qg,c W (d g h1 a) j om,oz l j e]
def wC(l:List Nat)(k:Nat)(h:k<l.length):l.take k++[l[k]]=l.take (k+1):=by rw[qe h]
def jY{b:Nat}(h:ae w B v l)(r:b<B)(j:Nat)(x:Value):ae (w.setCell ⟨b,j,nn⟩ x) B v l:=by
 refine⟨h.1,?_⟩;rcases h.2 with⟨e,c⟩|⟨a,cap,cur,p,d,g,f,i,k,n⟩
 .exact .inl ⟨e,c⟩
 .exact .inr ⟨a,cap,cur,p,d,(Ql _ _ _ _ (by show a≠b;omega)).trans g,f,i,k,n⟩
def ic(w:World)(e:Bool)(i:Nat)(r:Bool)(d:Int)(a:Option Addr)(n cap:Nat)(l:List Nat)(h:iB w a n cap l)(hn:n<=1048576):ce 104 #[frV e i r d a n cap] w fun o w'=>∃g k,o=rT (frV e i r d (be g) n k)/\ae w' (w.heap.size+2) (sL (be g) n k) l/\Bl w w':=by
 have T:Hid (iB w a n cap l):=h;have s:Hid (n=l.length):=h.len;have Y:Hid (∀x∈l,x<256):=h.small;have a6:=h.cap;clear h;have L:Bl w ((w.alloc (.cells #[bO e,I Zk (i:Int),bO r,I J d,sL a n cap] 53)).alloc (.cells #[bO false,I Zk 0,bO false,I J 0,sL nn 0 0] 53)):=Zw.alloc pQ _;have K:Hid _:=L;clear L;go_enter func104,ntmps104;go_wp2_with fail;have D:=kX ((w.alloc (.cells #[bO e,I Zk (i:Int),bO r,I J d,sL a n cap] 53)).alloc (.cells #[bO false,I Zk 0,bO false,I J 0,sL nn 0 0] 53)) (w.heap.size+2) pQ;have R:((w.alloc (.cells #[bO e,I Zk (i:Int),bO r,I J d,sL a n cap] 53)).alloc (.cells #[bO false,I Zk 0,bO false,I J 0,sL nn 0 0] 53)).heap[w.heap.size]?=sQ (.cells [bO e,I Zk (i:Int),bO r,I J d,sL a n cap].toArray 53):=by
  rw[Below.heap_alloc _ _ _ pQ];exact Qy w _
 have S:bU ((w.alloc (.cells #[bO e,I Zk (i:Int),bO r,I J d,sL a n cap] 53)).alloc (.cells #[bO false,I Zk 0,bO false,I J 0,sL nn 0 0] 53)) (w.heap.size+1) 5:=by
  have:=tT (w.alloc (.cells #[bO e,I Zk (i:Int),bO r,I J d,sL a n cap] 53)) [bO false,I Zk 0,bO false,I J 0,sL nn 0 0] 53;simpa using this
 have H:((w.alloc (.cells #[bO e,I Zk (i:Int),bO r,I J d,sL a n cap] 53)).alloc (.cells #[bO false,I Zk 0,bO false,I J 0,sL nn 0 0] 53)).heap.size=w.heap.size+2:=pQ;have O:w.heap.size+1+1=((w.alloc (.cells #[bO e,I Zk (i:Int),bO r,I J d,sL a n cap] 53)).alloc (.cells #[bO false,I Zk 0,bO false,I J 0,sL nn 0 0] 53)).heap.size:=pQ;simp only[O];clear O;generalize (w.alloc (.cells #[bO e,I Zk (i:Int),bO r,I J d,sL a n cap] 53)).alloc (.cells #[bO false,I Zk 0,bO false,I J 0,sL nn 0 0] 53)=b at*;rw[<- H]at D;have a0:Hid (b.heap[w.heap.size]?=sQ (.cells [bO e,I Zk (i:Int),bO r,I J d,sL a n cap].toArray 53)):=R;have a1:Hid (bU b (w.heap.size+1) 5):=S;have u:Hid (b.heap.size=w.heap.size+2):=H;clear R S H;go_loopw [3,4] (fun v t wr=>∃k:Nat,k<=n/\t=I J k/\ae wr b.heap.size v (l.take k)/\(k=0->v=sL (be b.heap.size) 0 0)/\Bl b wr) (fun _ t _=>n-(intOf t).toNat);case atStart=>exact⟨0,nZ _,rfl,D,fun _=>rfl,Zw⟩
 case round=>
  clear D;obtain⟨k,hk,rfl,ho,E,f⟩:=hrel;have j:=cd ((f.block _ (by have:=u.o;omega)).trans a0.o);have y0:=j 0 (bO e) rfl;have y1:=j 1 (I Zk (i:Int)) rfl;have y2:=j 2 (bO r) rfl;have y3:=j 3 (I J d) rfl;have y4:=j 4 (sL a n cap) rfl;simp only[qg,Nat.add_zero]at y0 y1 y2 y3 y4;clear j;by_cases a7:k<n
  .have hkl:k<l.length:=by have:=s.o;omega
   obtain⟨A,Q,rfl,M⟩:=T.o.cells (by intro e;rw[e]at hkl;exact Qj hkl (nN _));have G:=M k hkl;have a3:A<w.heap.size:=Qn w _ G;have xk:=(f.cell (p:=⟨A,Q+k,nn⟩) (by have:=u.o;show A<_;omega)).trans ((K.o.cell (p:=⟨A,Q+k,nn⟩) (by exact a3)).trans G);have W:Hid (ae wr b.heap.size u3 (l.take k)):=ho;have y:Hid (Bl b wr):=f;have Z:Hid (l.take k++[l[k]]=l.take (k+1)):=wC l k hkl;have U:Hid ((l.take k).length<=100000000):=by show _<=_;rw[qh];omega
   clear ho f M G E;generalize l[k]=ck at*;go_wp2_with(at_builtin;refine fM b wr rfl (.tmp 13) (.tmp 19) rfl b.heap.size u3 (l.take k) ck _ rfl rfl W.o rfl U.o y.o.size y.o ?_;intro v' w' a5 a2 _);go_roundw;case rel=>exact⟨k+1,om,by go_num,by rw[<- Z.o];exact a5,fun e=>Qj e om,a2⟩
   case measure=>simp[intOf];omega
  .have hkn:k=n:=om;subst hkn;have P:l.take k=l:=by rw[QY (by have:=s.o;omega)]
   rw[P]at ho;have N:u3≠sL nn 0 0:=by
    intro e;by_cases a4:k=0
    .rw[E a4]at e;cases e
    .subst e;rcases ho.2 with⟨_,h⟩|⟨g,_,_,h,_⟩
     .have:=s.o;omega
     .cases h
   obtain⟨C,k1,rfl,q1,q2,q3⟩:=iw ho N Y.o;rw[<- s.o];have X:Hid (ae wr b.heap.size (sL (be C) k k1) l):=by rw[<- s.o]at ho;exact ho
   have y:Hid (Bl w wr):=K.o.trans (f.mono (by have:=u.o;omega));have c:=a1.o.below f (by have:=u.o;omega);obtain⟨u0,z0⟩:=c.cell 0 om;obtain⟨u1,z1⟩:=c.cell 1 om;obtain⟨u2,z2⟩:=c.cell 2 om;obtain⟨u3,z3⟩:=c.cell 3 om;obtain⟨u4,z4⟩:=c.cell 4 om;have f0:=c.free 0;have f1:=c.free 1;have f2:=c.free 2;have f3:=c.free 3;have f4:=c.free 4;clear c q1 q2 q3 ho f E N P;go_wp2;refine Qp (v:=frV e i r d (be C) k k1) (by simp[results,results104,go_sem,z0,z1,z2,z3,z4]) rfl ?_;have hz:=u.o;refine⟨C,k1,rfl,?_,?_⟩
   .rw[show w.heap.size+2=b.heap.size from hz.symm]
    (repeat refine jY ?_ om _ _)
    exact X.o
   ·(repeat refine Below.setCell ?_ pQ _)
    exact y.o
def cM(w:World)(e:Bool)(i:Nat)(r:Bool)(d:Int)(a:Option Addr)(n cap:Nat)(l:List Nat)(h:iB w a n cap l)(c:n<=1048576):ce 104 #[frV e i r d a n cap] w fun o w'=>∃g k,o=rT (frV e i r d (be g) n k)/\(w.heap.size<=g/\g<w'.heap.size/\St (w.heap.size+2) w' (fun W=>iB W (be g) n k l)/\w.heap.size+2<=g)/\Bl w w':=by
 refine(ic w e i r d a n cap l h c).mono ?_;rintro o w' ⟨g,k,rfl,ho,b⟩;have t:=h.len;obtain⟨s,k1,q,f,j,p⟩:=iw ho pQ h.small;cases q;exact⟨g,k,rfl,⟨om,j,p,f⟩,b⟩
end
open Go renaming World->Wd
section
variable{w w':Wd}{T:TypeId}{b:Nat}{l:List Value}{fn:Func}{x:Tmp}{o:Oper}{a:Act}{Q:Exit->Act->Wd->Prop}
def rC(h:fn.results=#[.cell x T])(tmps:Array Value)(w:Wd)(b:Nat)(V:Value)(c:tmps.getD x undef=ap b)(d:(loadVar T ⟨b,0,nn⟩).run Tp w= .ok V w):(results fn tmps).run Tp w= .ok V w:=by
 simp only[Array.getD_eq_getD_getElem?]at c;simp[results,h,c,asAddr,d]
def cI{y:Tmp}(h:fn.results=#[.cell x T,.tmp y])(tmps:Array Value)(w:Wd)(b:Nat)(V:Value)(c:tmps.getD x undef=ap b)(d:(loadVar T ⟨b,0,nn⟩).run Tp w= .ok V w):(results fn tmps).run Tp w= .ok (.tuple #[V,tmps.getD y undef]) w:=by
 simp only[Array.getD_eq_getD_getElem?]at c;simp[results,h,c,asAddr,d]
def blk(w:Wd)(b:Nat)(l:List Value)(T:TypeId):Prop:=w.heap[b]?=sQ (.cells l.toArray T (0,0))
def blk.new(w:Wd)(l:List Value)(T:TypeId):blk (w.alloc (.cells l.toArray T)) w.heap.size l T:=Qy w _
def blk.alloc(h:blk w b l T)(o:Obj):blk (w.alloc o) b l T:=(Below.heap_alloc _ _ _ (av h)).trans h
def blk.below(h:blk w b l T)(hb:Bl w w'):blk w' b l T:=(hb.block _ (av h)).trans h
def blk.lt(h:blk w b l T):b<w.heap.size:=av h
def blk.put(pre old post vs:List Value)(h:blk w b (pre++old++post) T)(hl:old.length=vs.length):blk (w.setCells b pre.length vs) b (pre++vs++post) T:=fC b T vs old pre post w hl h
def blk.other{b':Nat}(h:blk w b l T)(hb:b≠b')(o:Nat)(vs:List Value):blk (w.setCells b' o vs) b l T:=(sO b' b hb vs w o).trans h
def blk.load(h:blk w b l T):w.rangeAt b 0 l:=cd h
def blk.there(h:blk w b l T)(o n:Nat)(ho:o+n<=l.length):w.there b o n:=fN h o n ho
def blk.cell(h:blk w b l T)(o:Nat)(v:Value)(ho:l[o]?=sQ v):w.cell? ⟨b,o,nn⟩=sQ v:=by
 have:=cd h o v ho;simpa using this
def blk.free(h:blk w b l T)(o:Nat):w.frozen? ⟨b,o,nn⟩=false:=by
 unfold World.frozen?;rw[h];simp
def blk.kept(h:blk w b l T)(he:w'.heap[b]?=w.heap[b]?):blk w' b l T:=he.trans h
def sZ(w:Wd)(b o:Nat)(c:List Value):(w.setCells b o c).heap.size=w.heap.size:=by rw[aT,bS]
def sW{B:Nat}(hB:B<=b){w0 w:Wd}(o:Nat)(c:List Value)(h:Below B w0 w):Below B w0 (w.setCells b o c):=by rw[aT];exact cJ b B hB w0 c w o h
def cE:(Tp.info? 53).map (·.size)=sQ 5:=kr
def lN(e:Bool)(i:Int)(r:Bool)(d:Int)(a:Option Addr)(n c:Nat):(#[bO e,I Zk i,bO r,I J d,sL a n c]:Array Value).all (·.oneCell')=true:=
 Qv (by simp[Value.oneCell'])
def m6(w:Wd)(x y z:Int)(e:Bool)(i:Nat)(r:Bool)(d:Int)(a:Option Addr)(n cap:Nat)(l:List Nat)(h:iB w a n cap l)(R:n<=1048576):ce 103 #[bxV x y z e i r d a n cap] w fun o w'=>∃g k,o=rT (bxV x y z e i r d (be g) n k)/\(w.heap.size<=g/\g<w'.heap.size/\St (w.heap.size+2) w' (fun W=>iB W (be g) n k l)/\w.heap.size+2<=g)/\Bl w w':=by
 have C:Hid (iB w a n cap l):=h;clear h;go_enter func103,ntmps103;go_wp2_with(go_at_call 104;refine(cM _ e i r d a n cap l (C.o.below ?_) R).mono ?_)
 .exact Zw.alloc pQ _
 .rintro o w1 ⟨g,k,rfl,⟨hg,hgz,hst,hg2⟩,hb⟩;have p:Hid (blk w1 w.heap.size ([I J x,I J y,I J z]++[bO e,I Zk (i:Int),bO r,I J d,sL a n cap]++[]) 114):=((blk.new w _ 114).alloc _).below hb;have E:Hid (blk w1 (w.heap.size+1) ([]++[I J 0,I J 0,I J 0,bO false,I Zk 0,bO false,I J 0,sL nn 0 0]++[]) 114):=by
   have:=(blk.new (w.alloc (.cells [I J x,I J y,I J z,bO e,I Zk (i:Int),bO r,I J d,sL a n cap].toArray 114)) [I J 0,I J 0,I J 0,bO false,I Zk 0,bO false,I J 0,sL nn 0 0] 114).below hb;simpa[Hid]using this
  have A:Hid (Bl w w1):=(Zw.alloc pQ _).trans (hb.mono (by simp;omega));have B:Hid (w.heap.size+2<=g/\g<w1.heap.size/\St (w.heap.size+2) w1 (fun W=>iB W (be g) n k l)):=by
   simp at hg hst;exact⟨om,hgz,hst.mono om⟩
  clear hb hg hgz hst hg2;go_wp2_with(first|(refine Zs 53 #[bO e,I Zk (i:Int),bO r,I J d,sL (be g) n k] (p.o.there 3 5 pQ) cE (lN _ _ _ _ _ _ _) ?_;generalize f:World.setCells w1 w.heap.size 3 _=c;have G:Hid (World.setCells w1 w.heap.size 3 [bO e,I Zk (i:Int),bO r,I J d,sL (be g) n k]=c):=f;have D:Hid (blk c w.heap.size [I J x,I J y,I J z,bO e,I Zk (i:Int),bO r,I J d,sL (be g) n k] 114):=(f ▸ blk.put [I J x,I J y,I J z] _ [] [bO e,I Zk (i:Int),bO r,I J d,sL (be g) n k] p.o rfl);have s:Hid (blk c (w.heap.size+1) ([]++[I J 0,I J 0,I J 0,bO false,I Zk 0,bO false,I J 0,sL nn 0 0]++[]) 114):=(f ▸ E.o.other om _ _);clear f)|(refine ZG 114 D.o.load underlying114 cK ?_)|(refine Qo (P:=Tp) rfl 114 (.tmp 2) (.tmp 7) rfl (w.heap.size+1) 0 _ rfl rfl (s.o.there 0 8 pQ) cK (mS _ _ _ _ _ _ _ _ _ _) ?_;generalize u:World.setCells c (w.heap.size+1) 0 _=j;have H:Hid (World.setCells c (w.heap.size+1) 0 [I J x,I J y,I J z,bO e,I Zk (i:Int),bO r,I J d,sL (be g) n k]=j):=u;clear u))
  have K:=G.o;have t:=H.o;have hF:blk j (w.heap.size+1) [I J x,I J y,I J z,bO e,I Zk (i:Int),bO r,I J d,sL (be g) n k] 114:=t ▸ blk.put [] _ [] _ s.o rfl;have O:=Qt (P:=Tp) j (w.heap.size+1) 0 114 _ _ hF.load underlying114 rfl cK;refine Qp (v:=bxV x y z e i r d (be g) n k) (rC results103 _ j (w.heap.size+1) _ rfl O) rfl ?_;obtain⟨L,M,N⟩:=B.o;subst K;subst t;refine⟨g,k,rfl,⟨om,by rw[sZ,sZ];exact M,(N.setCells _ _ om _).setCells _ _ om _,L⟩,?_⟩;exact sW om _ _ (sW om _ _ A.o)
def vu(T R E:TypeId)(Z:Value)(d p:Nat)(K:(Tp.info? E).map (fun i=>(i.zero,i.size,i.bytes))=sQ (sQ Z,d,p))(S:Tp.underlying T=sQ (.slice E))(D:Z.cells.size=d)(O:0<d)(H:p<=1000)
  (B g n k:Nat) (xs:List Value) (v:w.ownsRow B E d (sL (be g) n k) n xs) (b:Nat) (f:List Value) (M:f.length=d) (G:w.heap[b]?=sQ (.cells f.toArray E)) (h1:∀u∈f,u.oneCell'=true) (hn:n<=100000000) (hB:B<=w.heap.size) :
  ∃c r w',(Builtin.append_ #[T,T] R #[sL (be g) n k,sL (be b) 1 1]).run Tp w= .ok (sL (be c) (n+1) r) w'/\w'.ownsRow B E d (sL (be c) (n+1) r) (n+1) (xs++f)/\w.grownBy w' (sQ g)/\(c=g\/c=w.heap.size)/\g<w'.heap.size/\B<=c:=by
 obtain⟨Y,hi,U,W,X⟩:=QH K;have a0:(n+1)*p<=(n+1)*1000:=Nat.mul_le_mul_left _ H
 obtain⟨v',w',N,s,t,A,C⟩:=run_append_own_at (P:=Tp) w B T R E Y Z d p S hi U W X D O (sL (be g) n k) n xs v ⟨b,0,nn⟩ 1 1 f (by rw[M,Nat.one_mul]) (by
  intro j u L;have:=cd G j u L
  rw[Addr.add_lit]
  exact this) h1 (by unfold maxLen;omega) om hB
 have hne:v'≠sL nn 0 0:=by
  intro e;obtain⟨y,_⟩:=A.1 e;cases y
 obtain⟨c,r,rfl,q1,q2,q3,q4⟩:=gn s hne;refine⟨c,r,w',N,s,t,?_,nL (Qm v g rfl).2 t.size,q1⟩;rcases C with h|h
 .left;simpa[Value.ownBlock]using h
 .right;simpa[Value.ownBlock]using h
def wg{p:Array Oper}{rest:List Oper}(H:o.guard=nn)(s x:Operand)(T E:TypeId)(Z:Value)(d j:Nat)(L:(Tp.info? E).map (fun i=>(i.zero,i.size,i.bytes))=sQ (sQ Z,d,j))(S:Tp.underlying T=sQ (.slice E))(C:Z.cells.size=d)(R:0<d)(G:j<=1000)
  (ho:o.op= .call {callee:=.builtin .append,args:=#[s,x],argTypes:=#[T,T]})
  (B g n k:Nat) (xs:List Value) (hs:a.eval s=sL (be g) n k) (O:w.ownsRow B E d (sL (be g) n k) n xs) (b:Nat) (e:List Value) (U:a.eval x=sL (be b) 1 1) (M:e.length=d) (D:w.heap[b]?=sQ (.cells e.toArray E)) (h1:∀u∈e,u.oneCell'=true) (N:n<=100000000) (hB:B<=w.heap.size)
  (h:∀c f w',w'.ownsRow B E d (sL (be c) (n+1) f) (n+1) (xs++e)->w.grownBy w' (sQ g)->(c=g\/c=w.heap.size)->B<=c->wpList Tp p Q rest (a.put o.dst (sL (be c) (n+1) f)) w') :
  wpList Tp p Q (o::rest) a w:=by
 obtain⟨c,f,w',P,r,t,v,W,y⟩:=vu T o.type E Z d j L S C R G B g n k xs O b e M D h1 N hB;refine wpList_plain H fun K A=>?_;unfold Oper.wp execOp;simp only[ho,resolve,invoke,builtin,QS,Sem.run_pure,Result.andThen_ok,List.map_toArray,Qi,List.map_nil,hs,U,P];exact A _ _ (h c f w' r t v y)
def gJ{K:Act->Wd->Prop}(s x:Operand)(T E:TypeId)(Z:Value)(d j:Nat)(D:(Tp.info? E).map (fun i=>(i.zero,i.size,i.bytes))=sQ (sQ Z,d,j))(O:Tp.underlying T=sQ (.slice E))(y:Z.cells.size=d)(N:0<d)(C:j<=1000)
  (ho:o.op= .call {callee:=.builtin .append,args:=#[s,x],argTypes:=#[T,T]})
  (B g n k:Nat) (xs:List Value) (hs:a.eval s=sL (be g) n k) (L:w.ownsRow B E d (sL (be g) n k) n xs) (b:Nat) (e:List Value) (P:a.eval x=sL (be b) 1 1) (G:e.length=d) (A:w.heap[b]?=sQ (.cells e.toArray E)) (h1:∀u∈e,u.oneCell'=true) (H:n<=100000000) (hB:B<=w.heap.size)
  (h:∀c f w',w'.ownsRow B E d (sL (be c) (n+1) f) (n+1) (xs++e)->w.grownBy w' (sQ g)->(c=g\/c=w.heap.size)->B<=c->K (a.put o.dst (sL (be c) (n+1) f)) w') :
  o.wp Tp a w K Q:=by
 obtain⟨c,f,w',M,p,r,t,R,v⟩:=vu T o.type E Z d j D O y N C B g n k xs L b e G A h1 H hB;unfold Oper.wp execOp;simp only[ho,resolve,invoke,builtin,QS,Sem.run_pure,Result.andThen_ok,List.map_toArray,Qi,List.map_nil,hs,P,M];exact h c f w' p r t v
def bC{fn:Func}{x:Tmp}{T:TypeId}{R:Ending->Wd->Prop}{a:Act}{w:Wd}{b:Nat}{V:Value}(h:fn.results=#[.cell x T])(d:(loadVar T ⟨b,0,nn⟩).run Tryz.prog w= .ok V w)(hR:R (.returned V) w)(c:a.tmps.getD x undef= .pointer (be b):=by rfl)(hd:a.defers=[]:=by rfl):bodyPost Tryz.prog fn R .ret a w:=Qp (rC h _ w b V c d) hd hR
end
section
variable{w w':World}{B E g k sz:Nat}
structure Rc(α:Type) where
 enc:α->List Value
 ld:α->List Nat
 gd:α->Nat
 kd:α->Nat
def AF{a:Type}(f:a->List Value)(sz:Nat)(b:∀p,(f p).length=sz)(rs:List a):(rs.flatMap f).length=rs.length*sz:=by
 induction rs with
 |nil=>simp
 |cons p rs ih=>rw[qD,QX,ih,b,qV,Nat.succ_mul,Nat.add_comm]
def ln{c:Type}(f:c->List Value)(sz:Nat)(a:∀p,(f p).length=sz):∀(rs:List c)(j:Nat)(h:j<rs.length)(t:Nat),t<sz->(rs.flatMap f)[j*sz+t]?=(f rs[j])[t]?:=by
 intro rs;induction rs with
 |nil=>intro j h;exact Qj h (nN _)
 |cons p rs ih=>
  intro j h t b;rw[qD];cases j with
  |zero=>rw[Nat.zero_mul,qg,qU (by rw[a];exact b)];rfl
  |succ j=>
   rw[qT (by rw[a,Nat.succ_mul];omega),a,show(j+1)*sz+t-sz=j*sz+t by rw[Nat.succ_mul];omega,ih j (by simpa using h) t b];rfl
structure cj{α:Type}(F:Rc α)(w:World)(B E sz g k:Nat)(rs:List α):Prop where
 own:w.ownsRow B E sz (sL (be g) rs.length k) rs.length (rs.flatMap F.enc)
 dat:∀p∈rs,iB w (be (F.gd p)) (F.ld p).length (F.kd p) (F.ld p)/\B<=F.gd p/\F.gd p≠g/\F.gd p<w.heap.size
def oK{n:Nat}{xs:List Value}(h:w.ownsRow B E sz (sL (be g) n k) n xs)(f:w'.heap[g]?=w.heap[g]?):w'.ownsRow B E sz (sL (be g) n k) n xs:=by
 refine⟨h.1,?_⟩;rcases h.2 with⟨e,_⟩|⟨a,cap,cur,b,c,i,d,j,l,p⟩
 .cases e
 .have e1:a=g:=by cases b;rfl
  subst e1;exact .inr ⟨a,cap,cur,b,c,f.trans i,d,j,l,p⟩
def cj.lt{α:Type}{F:Rc α}{rs:List α}(h:cj F w B E sz g k rs):B<=g/\g<w.heap.size:=Qm h.own g rfl
def cj.kept{f:Type}{F:Rc f}{rs:List f}(h:cj F w B E sz g k rs)(d:∀b,B<=b->b<w.heap.size->w'.heap[b]?=w.heap[b]?)(l:w.heap.size<=w'.heap.size):cj F w' B E sz g k rs:=by
 have e:=h.lt;refine⟨oK h.own (d g e.1 e.2),fun p j=>?_⟩;obtain⟨h1,a,i,c⟩:=h.dat p j;exact⟨h1.other (d _ a c),a,i,nL c l⟩
def cj.below{α:Type}{F:Rc α}{rs:List α}(h:cj F w B E sz g k rs)(hb:Bl w w'):cj F w' B E sz g k rs:=h.kept (fun b _ h2=>hb.block b h2) hb.size
def cj.alloc{α:Type}{F:Rc α}{rs:List α}(h:cj F w B E sz g k rs)(o:Obj):cj F (w.alloc o) B E sz g k rs:=h.kept (fun b _ h2=>Below.heap_alloc _ _ _ h2) pQ
def cj.set{α:Type}{F:Rc α}{rs:List α}(h:cj F w B E sz g k rs)(b o:Nat)(hb:b<B)(vs:List Value):cj F (w.setCells b o vs) B E sz g k rs:=h.kept (fun k hk _=>sO b k om vs w o) (by rw[sZ];exact nR _)
def cj.nil{α:Type}(F:Rc α)(w:World)(B E sz:Nat)(hB:B<=w.heap.size):cj F (w.alloc (.cells #[] E)) B E sz w.heap.size 0 []:=
 ⟨World.ownsRow_made w #[] 0 hB (by decide) pQ,fun p hp=>by cases hp⟩
def cj.snoc{c:Type}{F:Rc c}{b f:Nat}{rs:List c}(h:cj F w B E sz g k rs)(p:c)(hd:iB w (be (F.gd p)) (F.ld p).length (F.kd p) (F.ld p))(h1:B<=F.gd p)(j:F.gd p≠g)(l:F.gd p<w.heap.size)
  (ho:w'.ownsRow B E sz (sL (be b) (rs.length+1) f) (rs.length+1) (rs.flatMap F.enc++F.enc p)) (d:w.grownBy w' (sQ g)) (n:b=g\/b=w.heap.size):cj F w' B E sz b f (rs++[p]):=by
 refine⟨?_,fun q a=>?_⟩
 .have e1:(rs++[p]).length=rs.length+1:=by simp
  have i:(rs++[p]).flatMap F.enc=rs.flatMap F.enc++F.enc p:=pQ;rw[e1,i];exact ho
 .have key:iB w (be (F.gd q)) (F.ld q).length (F.kd q) (F.ld q)/\B<=F.gd q/\F.gd q≠g/\F.gd q<w.heap.size:=by
   rcases List.mem_append.1 a with a|a
   .exact h.dat q a
   .have e:q=p:=by simpa using a
    subst e;exact⟨hd,h1,j,l⟩
  obtain⟨k1,k2,k3,k4⟩:=key;refine⟨k1.other (d.block _ k4 (by intro e;exact k3 (qX e))),k2,?_,nL k4 d.size⟩;rcases n with rfl|rfl
  .exact k3
  .omega
def rc8:Rc (R8 × Nat × Nat):=⟨fun p=>[I J p.1.x,I J p.1.y,I J p.1.z,bO p.1.e,I .u32 (p.1.i:Int),bO p.1.r,I J p.1.d,sL (be p.2.1) p.1.l.length p.2.2],fun p=>p.1.l,fun p=>p.2.1,fun p=>p.2.2⟩
def rc5:Rc (R5 × Nat × Nat):=⟨fun p=>[bO p.1.e,I .u32 (p.1.i:Int),bO p.1.r,I J p.1.d,sL (be p.2.1) p.1.l.length p.2.2],fun p=>p.1.l,fun p=>p.2.1,fun p=>p.2.2⟩
def cj.r8{rs:List (R8 × Nat × Nat)}(h:cj rc8 w B E 8 g k rs):St B w (fun W=>aP W (be g) rs.length k (rs.map (·.1))):=by
 intro W c;have f:=h.lt;have D:=fun b r s=>c b r s;obtain⟨C,c1,p,G,H,x,y⟩:=gn h.own (by intro e;cases e);cases p;refine⟨pQ,x,fun _=>⟨g,0,rfl,fun j u=>?_⟩⟩;have d:j<rs.length:=by simpa using u
 obtain⟨i,l,A,n⟩:=h.dat rs[j] (ql d)
 have a:∀t,t<8->W.cell? ⟨g,j*8+t,nn⟩=(rc8.enc rs[j])[t]?:=fun t v=>by
  rw[y W (c g f.1 f.2) (j*8+t) om,ln rc8.enc 8 (fun _=>rfl) rs j d t v]
 rw[qg,za];exact⟨_,_,_,a 0 om,a 1 om,a 2 om,a 3 om,a 4 om,a 5 om,a 6 om,a 7 om,i.other (c _ l n)⟩
end
section
variable{w:World}{g o m c k:Nat}{ao:Option Addr}{bs:List R8}{rs:List (R8 × Nat × Nat)}
def at8.range{b:R8}(h:at8 w g o b ao m c):w.rangeAt g o [I J b.x,I J b.y,I J b.z,bO b.e,I .u32 (b.i:Int),bO b.r,I J b.d,sL ao m c]:=by
 intro j v a;match j,a with
 |0,a=>cases a;exact h.c0
 |1,a=>cases a;exact h.c1
 |2,a=>cases a;exact h.c2
 |3,a=>cases a;exact h.c3
 |4,a=>cases a;exact h.c4
 |5,a=>cases a;exact h.c5
 |6,a=>cases a;exact h.c6
 |7,a=>cases a;exact h.cs
def at5.range{b:R5}(h:at5 w g o b ao m c):w.rangeAt g o [bO b.e,I .u32 (b.i:Int),bO b.r,I J b.d,sL ao m c]:=by
 intro j v a;match j,a with
 |0,a=>cases a;exact h.c0
 |1,a=>cases a;exact h.c1
 |2,a=>cases a;exact h.c2
 |3,a=>cases a;exact h.c3
 |4,a=>cases a;exact h.cs
def at3.range{b:R3}(h:at3 w g o b):w.rangeAt g o [bO b.e,I .u32 b.m,I .u32 b.k]:=by
 intro j v a;match j,a with
 |0,a=>cases a;exact h.c0
 |1,a=>cases a;exact h.c1
 |2,a=>cases a;exact h.c2
def blk.loadAt{b:Nat}(e d post:List Value){T:TypeId}(h:blk w b (e++d++post) T):w.rangeAt b e.length d:=by
 intro j v a;have f:=(List.getElem?_eq_some_iff.1 a).1;refine h.cell _ _ ?_;rw[Q2,qT om,Qa,qU f];exact a
def zG(x y z:Int)(e:Bool)(i:Int)(r:Bool)(d:Int)(a:Option Addr)(n c:Nat):∀u∈[Value.int .i64 x,I J y,I J z,bO e,I .u32 i,bO r,I J d,sL a n c],u.oneCell'=true:=by
 intro u b;simp only[Qh,Q8,or_false]at b;rcases b with rfl|rfl|rfl|rfl|rfl|rfl|rfl|rfl<;>rfl
def Dm(h:rs.map (·.1)=bs.take k)(a:k<bs.length)(p:R8 × Nat × Nat)(b:p.1=bs[k]):(rs++[p]).map (·.1)=bs.take (k+1):=by
 rw[List.map_append,h,qe a,Qi,List.map_nil,b]
def iM(h:rs.map (·.1)=bs.take k)(a:k<=bs.length):rs.length=k:=by
 have:=congrArg List.length h;rw[qP,qh]at this;omega
end
section
variable{W w W' W'':Wd}{hv gv l:List Value}{B g b k:Nat}{T:TypeId}{bs:List R5}{rs:List (R5 × Nat × Nat)}
def blk.set(h:blk w b l T)(o:Nat)(v:Value):blk (w.setCell ⟨b,o,none⟩ v) b (l.set o v) T:=by
 have:=QA w b o _ _ v h;simpa[blk]using this
def blk.setOther{b':Nat}(h:blk w b l T)(hb:b≠b')(o:Nat)(v:Value):blk (w.setCell ⟨b',o,none⟩ v) b l T:=h.other hb o [v]
abbrev z10:List Value:=zX
structure gS(w:Wd)(hv gv:List Value)(W:Wd):Prop where
 p:blk W w.heap.size hv 50
 r:blk W (w.heap.size+1) z10 50
 q:blk W (w.heap.size+1+1) gv 50
 b:Bl w W
def gS.z(h:gS w hv gv W):w.heap.size+3<=W.heap.size:=h.q.lt
def gS.below(h:gS w hv gv W)(hb:Bl W W'):gS w hv gv W':=⟨h.p.below hb,h.r.below hb,h.q.below hb,h.b.trans (hb.mono h.b.size)⟩
def gS.grown(h:gS w hv gv W)(a:W.grownBy W' (some g))(c:w.heap.size+3<=g):gS w hv gv W':=by
 have d:=h.z;exact⟨h.p.kept (a.block _ om (by intro e;cases e;omega)),h.r.kept (a.block _ om (by intro e;cases e;omega)),h.q.kept (a.block _ om (by intro e;cases e;omega)),h.b.grown a om (by intro k e;cases e;omega)⟩
def gS.set(h:gS w hv gv W)(o:Nat)(v:Value):gS w hv (gv.set o v) (W.setCell ⟨w.heap.size+1+1,o,none⟩ v):=
 ⟨h.p.setOther om _ _,h.r.setOther om _ _,h.q.set _ _,h.b.setCell (by show _<=_+_+_;omega) _⟩
structure hS(w:Wd)(hv:List Value)(W:Wd):Prop where
 p:blk W w.heap.size hv 50
 b:Bl w W
def gS.hs(h:gS w hv gv W):hS w hv W:=⟨h.p,h.b⟩
def rc3:R3->List Value:=fun b=>[bO b.e,I .u32 b.m,I .u32 b.k]
def DL(bs:List R3):c3 bs=bs.flatMap rc3:=rfl
def CX(bs:List R3)(k:Nat)(h:k<bs.length):c3 (bs.take k)++rc3 bs[k]=c3 (bs.take (k+1)):=by
 rw[DL,DL,qe h,List.flatMap_append,qD,List.flatMap_nil,Qg]
def Ga(h:rs.map (·.1)=bs.take k)(a:k<bs.length)(p:R5 × Nat × Nat)(c:p.1=bs[k]):(rs++[p]).map (·.1)=bs.take (k+1):=by
 rw[List.map_append,h,qe a,Qi,List.map_nil,c]
def nM(h:rs.map (·.1)=bs.take k)(a:k<=bs.length):rs.length=k:=by
 have:=congrArg List.length h;rw[qP,qh]at this;omega
def Gu(e:Bool)(i:Int)(r:Bool)(d:Int)(a:Option Addr)(n c:Nat):∀u∈[Value.bool e,I .u32 i,bO r,I J d,sL a n c],u.oneCell'=true:=by
 intro u f;simp only[Qh,Q8,or_false]at f;rcases f with rfl|rfl|rfl|rfl|rfl<;>rfl
structure Kp(B:Nat)(W W':Wd):Prop where
 same:∀b,B<=b->b<W.heap.size->W'.heap[b]?=W.heap[b]?
 size:W.heap.size<=W'.heap.size
def Kp.refl(B:Nat)(W:Wd):Kp B W W:=⟨fun _ _ _=>rfl,nR _⟩
def Kp.below(h:Kp B W W')(hb:Bl W' W''):Kp B W W'':=⟨fun b h1 h2=>(hb.block b (nL h2 h.size)).trans (h.same b h1 h2),nT h.size hb.size⟩
def Kp.grown(h:Kp B W W')(hg:W'.grownBy W'' (some g))(hw:W.heap.size<=g):Kp B W W'':=⟨fun b h1 h2=>(hg.block b (nL h2 h.size) (by intro e;cases e;omega)).trans (h.same b h1 h2),nT h.size hg.size⟩
def Kp.set(h:Kp B W W')(b o:Nat)(hb:b<B)(v:Value):Kp B W (W'.setCell ⟨b,o,none⟩ v):=⟨fun k h1 h2=>(Ql _ _ _ _ (by show k≠b;omega)).trans (h.same k h1 h2),by simpa using h.size⟩
def St.kp{p:Wd->Prop}(h:St B W p)(hk:Kp B W W'):St B W' p:=fun V hV=>h V fun k h1 h2=>(hV k h1 (nL h2 hk.size)).trans (hk.same k h1 h2)
def cY{o:Nat}(h:w.rangeAt g o l)(hb:Bl w W)(hg:g<w.heap.size):W.rangeAt g o l:=fun j v hv=>(hb.cell (by exact hg)).trans (h j v hv)
def Gw(e:Bool)(m k:Int):∀u∈[Value.bool e,I .u32 m,I .u32 k],u.oneCell'=true:=by
 intro u a;simp only[Qh,Q8,or_false]at a;rcases a with rfl|rfl|rfl<;>rfl
end
def gc:(Tp.info? 53).map (·.size)=some 5:=kr
def prL:List Value:=[I J 0,I J 0,.func (.func 178) #[] #[],I J 0,I J 0,.func (.func 179) #[] #[],I J 0,I J 5,.func (.func 180) #[] #[],I J 0,I J 15,.func (.func 181) #[] #[],I J 1,I J 7,.func (.func 182) #[] #[],I J 0,I J 2,.func (.func 183) #[] #[],I J 0,I J 7,.func (.func 184) #[] #[],I J 0,I J 10,.func (.func 185) #[] #[]]
def BQ:prL.length=24:=rfl
def BP:prL.toArray.all (·.oneCell')=true:=Qv (by simp[prL,Value.oneCell'])
def Dn:(Tp.info? 179).map (·.size)=some 24:=kr
def Ef:(Tp.info? 179).map (·.size)=some prL.toArray.size:=Dn
def Ee:(Tp.info? 179).map (·.size)=some prL.length:=Dn
def prZ:List Value:=[I J 0,I J 0,.nilFunc,I J 0,I J 0,.nilFunc,I J 0,I J 0,.nilFunc,I J 0,I J 0,.nilFunc,I J 0,I J 0,.nilFunc,I J 0,I J 0,.nilFunc,I J 0,I J 0,.nilFunc,I J 0,I J 0,.nilFunc]
def i9(w:World):ce 130 #[] w fun o w'=>o=rT (aG prL.toArray)/\Bl w w':=by
 have c:Hid (blk (w.alloc (.cells prZ.toArray 179)) w.heap.size prZ 179):=blk.new w _ 179;go_enter func130,ntmps130
 go_wp2_with(refine Zs 179 prL.toArray (c.o.there 0 _ (by rw[Q7,BQ];decide)) Ef BP ?_;generalize e:World.setCells _ w.heap.size 0 _=a;have f:Hid (_=a):=e;clear e)
 have d:=f.o;have hF:blk a w.heap.size prL 179:=by
  rw[<- d];have:=blk.put [] prZ [] prL (w:=w.alloc (.cells prZ.toArray 179)) (b:=w.heap.size) (T:=179) (by simpa using c.o) rfl;have h:blk ((w.alloc (.cells prZ.toArray 179)).setCells w.heap.size 0 prL) w.heap.size prL 179:=by simpa using this
  exact h
 have g:=Qt (P:=Tp) a w.heap.size 0 179 _ _ hF.load underlying179 rfl Ee;refine bC results130 g ?_;refine⟨rfl,?_⟩;rw[<- d];exact sW (nR _) 0 _ Zw
end Go.Proofs.YtbbffcolnddcdaaGreatDoor
