import Derived.Test.YtbbffcolnddcdaaGreatDoorK14
import Derived.Test.YtbbffcolnddcdaaGreatDoorK12
import Derived.Deep.RegionHeld3
namespace Go.Proofs.YtbbffcolnddcdaaGreatDoor
set_option linter.all false
open Go.RowKit
def aS(f:Int)(e:Bool)(d:Int):Int:=
 if f=2 then 11 else if f=5 then 18 else if f=7 then(if e=true then 2 else 1)else if f=8 then 4
 else if f=9 then(if d > 8 then 64 else 8*d)else if f=10 then 15 else if f=14 then 7 else 1
def ax(f:Int)(e r:Bool)(d:Int):Int:=
 if f=4/\e=false then 7 else if f=8/\(r=true\/d=0)then 10 else f+1
open Go.Proofs.Tryz
set_option maxRecDepth 20000
set_option maxHeartbeats 16000000
open Go.Value renaming int->I,slice->sL,bool->bO,pointer->pT,agg->aG
open Go.IntKind renaming i64->J
open Go.Ending renaming returned->rT
open Go.Proofs.Tryz renaming prog->Tp
def cm(f lf cr ac bit:Int):Int:=
 if f=1 then(if bit=1 then 4 else 0)
 else if f=11 then(if bit=0 then 4 else 0)
 else if f=13 then(if bit=0 then 4 else if ac=cr then 0 else 5)
 else if f=14 then(if bit=0 then(if lf > 1 then 4 else 6)else if lf=2 then 1 else if lf=1 then 2 else 0)
 else 0
def m7(w:World)(S:Sc)(a:Option Addr)(n cap:Nat)(bit:Int):ce 59 #[scV S a n cap,I J bit] w fun o w'=>o=rT (I J (cm S.f S.lf S.cr S.ac bit))/\Bl w w':=by
 obtain⟨f,lf,rn,lv,cr,ac,e,i,r,d,l⟩:=S;go_enter func59,ntmps59;go_wp2;all_goals(go_ret;refine⟨aL ?_,Zw⟩;unfold cm;simp_all)
def jl(w:World)(f:Int)(e:Bool)(i:Nat)(r:Bool)(d:Int)(hd:0<=d)(b:d<=15)(a:Option Addr)(n cap:Nat):ce 62 #[I J f,frV e i r d a n cap] w fun o w'=>o=rT (I J (aS f e d))/\Bl w w':=by
 go_enter func62,ntmps62;go_wp2;all_goals(go_ret;refine⟨aL ?_,Zw⟩;unfold aS;first|(simp_all;done)|(simp_all;omega))
def sI(w:World)(f:Int)(b:0<=f)(c:f<=100)(e:Bool)(i:Nat)(r:Bool)(d:Int)(a:Option Addr)(n cap:Nat):ce 63 #[I J f,frV e i r d a n cap] w fun o w'=>o=rT (I J (ax f e r d))/\Bl w w':=by
 cases e<;>cases r<;>go_enter func63,ntmps63;all_goals go_wp2
 all_goals(go_ret;refine⟨aL ?_,Zw⟩;unfold ax;simp_all)
def l2x(r b:Nat)(h1:r<32768)(c:b<2):bits BinOp.xor IntKind.i64 ((r:Int) / 16384) (b:Int)=if b≠r / 16384 then 1 else 0:=by
 rw[show(r:Int) / 16384=((r / 16384:Nat):Int)by omega,eo _ _ om om];have:r / 16384<2:=om;generalize r / 16384=y at*;have a:b=0\/b=1:=om;have hy:y=0\/y=1:=om;rcases a with rfl|rfl<;>rcases hy with rfl|rfl<;>decide
def xy(r b:Nat)(w:World)(h1:r<32768)(c:b<2):ce 60 #[I J r,I J b] w fun e w'=>e=rT (I J (M.dE r b:Nat))/\w=w':=by
 have a:=l2x r b h1 c;by_cases h:b≠r / 16384
 .rw[QW h]at a;go_enter func60,ntmps60;go_wp2;go_ret;refine⟨aL ?_,rfl⟩;have e:((r:Int)*2)%32768=((2*r%32768:Nat):Int):=om;rw[e,show(17817:Int)=((17817:Nat):Int)from rfl,eo _ _ om (by decide)];simp[M.dE,h]
 .rw[QV h]at a;go_enter func60,ntmps60;go_wp2;go_ret;refine⟨aL ?_,rfl⟩;unfold M.dE;rw[QV h];omega
def okS(S:Sc):Prop:=1<=S.f/\S.f<=14/\S.i<536870912/\0<=S.d/\S.d<=15/\S.l.length<=8/\1<=S.lf/\S.lf<=aS S.f S.e S.d/\0<=S.rn/\S.rn<=5/\0<=S.lv/\S.lv<=1/\¬(S.rn=0/\S.lv=1)/\((S.f=1\/11<S.f)↔S.rn=0)/\0<=S.cr/\S.cr<=32767/\0<=S.ac/\S.ac<=32767/\(S.f=9->S.r=false/\S.d≠0/\(S.l.length:Int)=(aS S.f S.e S.d-S.lf+7) / 8)
def iu(f:Int)(e:Bool)(d:Int)(h0:0<=d)(h1:d<=15):0<=aS f e d/\aS f e d<=64:=by
 unfold aS;cases e<;>simp<;>omega
def zr{f rn:Int}{P:Prop}(h1:¬f=1)(c:¬rn=0)(h:(!(f==1||decide (11<f))==(rn==0))=true)(d:11<f->¬P):¬P:=by
 by_cases q:11<f
 .exact d q
 .have e1:(f==1)=false:=by simpa using h1
  have a:(rn==0)=false:=by simpa using c
  have b:decide (11<f)=false:=by simpa using q
  rw[e1,a,b]at h;exact Qj h (by decide)
def kF(w:World)(S:Sc)(a:Option Addr)(n cap:Nat)(hn:n=S.l.length)(hn1:n<=1048576):Calls Tp 45 #[scV S a n cap] w fun o w'=>bH o (okS S)/\Bl w w':=by
 obtain⟨f,lf,rn,lv,cr,ac,e,i,r,d,l⟩:=S;simp only[]at hn;have HN:Hid (n=l.length):=hn;clear hn;have HZ:Hid (0<=d->d<=15->0<=aS f e d/\aS f e d<=64):=iu f e d;have HC:Hid (0<=d->d<=15->∀W,Bl w W->Calls Tp 62 #[I J f,frV e i r d a n cap] W fun o w'=>o=rT (I J (aS f e d))/\Bl w w'/\Bl W w'):=fun h0 h1 W hW=>(jl W f e i r d h0 h1 a n cap).mono (by rintro o w' ⟨rfl,hb⟩;exact⟨rfl,hW.trans (hb.mono hW.size),hb⟩);have HK:Hid (okS ⟨f,lf,rn,lv,cr,ac,e,i,r,d,l⟩↔(1<=f/\f<=14/\i<536870912/\0<=d/\d<=15/\n<=8/\1<=lf/\lf<=aS f e d/\0<=rn/\rn<=5/\0<=lv/\lv<=1/\¬(rn=0/\lv=1)/\((f=1\/11<f)↔rn=0)/\0<=cr/\cr<=32767/\0<=ac/\ac<=32767/\(f=9->r=false/\d≠0/\(n:Int)=(aS f e d-lf+7) / 8))):=by
  unfold okS;simp only[];rw[<- HN.o];exact Iff.rfl
 generalize okS ⟨f,lf,rn,lv,cr,ac,e,i,r,d,l⟩=P at*;generalize aS f e d=z at*;by_cases hi:i<536870912
 .have hi2:decide ((536870912:Int)<=(i:Int))=false:=qm om;have HI:Hid (i<536870912):=hi;clear hi;go_enter func45,ntmps45;go_wp2_with(go_at_call 62;refine(HC.o om om _ Zw).mono ?_;rintro o w1 ⟨rfl,hb1,hb2⟩;obtain⟨hc,hf⟩:=vY hb2;have HB:Hid _:=hb1;have hz:=HZ.o om om;clear hb1 hb2);all_goals
   go_ret;refine⟨⟨_,rfl,?_⟩,?_⟩;rotate_left
   .first|exact HB.o|exact Zw
   rw[HK.o];have hi:=HI.o;clear HK HC HZ HI;cases r<;>simp only[qH,Bool.true_eq_false,false_iff,true_iff,true_and,false_and,imp_false]<;>first|omega|(simp_all;done)|(simp_all;omega)|(by_cases q:11<f<;>simp_all<;>omega)|(by_cases q:11<f<;>simp_all;done)|(exact zr (by assumption) (by assumption) (by assumption) (fun q=>by omega))
 .have hi2:decide ((536870912:Int)<=(i:Int))=true:=qy om;have HI:Hid (¬i<536870912):=hi;clear hi;go_enter func45,ntmps45;go_wp2_with fail;all_goals
   go_ret;refine⟨⟨_,rfl,?_⟩,Zw⟩;rw[HK.o];have hi:=HI.o;clear HK HC HZ HI;simp only[qH,false_iff];omega
section
variable{w w':World}{B g n k:Nat}
def eJ{E c:Nat}{xs:List Value}(h:w.ownsRow B E c (sL (be g) n k) n xs)(i:w'.heap[g]?=w.heap[g]?):w'.ownsRow B E c (sL (be g) n k) n xs:=by
 refine⟨h.1,?_⟩;rcases h.2 with⟨e,_⟩|⟨a,cap,cur,b,d,j,f,l,p,r⟩
 .cases e
 .have e1:a=g:=by cases b;rfl
  subst e1;exact .inr ⟨a,cap,cur,b,d,i.trans j,f,l,p,r⟩
def ae.keep{l:List Nat}(h:ae w B (sL (be g) n k) l)(b:n=l.length)(a:w'.heap[g]?=w.heap[g]?):ae w' B (sL (be g) n k) l:=by
 subst b;exact eJ h a
end
open Option renaming none->nn,some->sQ
section
variable{w:World}{B:Nat}{v:Value}{l:List Nat}
def ae.setCells{b:Nat}(h:ae w B v l)(r:b<B)(o:Nat)(p:List Value):ae (w.setCells b o p) B v l:=by
 refine⟨h.1,?_⟩;rcases h.2 with⟨e,a⟩|⟨c,cap,cur,n,d,g,f,i,j,k⟩
 .exact .inl ⟨e,a⟩
 .exact .inr ⟨c,cap,cur,n,d,(sO _ _ om _ _ _).trans g,f,i,j,k⟩
def ae.mono{B':Nat}(h:ae w B v l)(k:B'<=B):ae w B' v l:=by
 refine⟨h.1,?_⟩;rcases h.2 with⟨e,a⟩|⟨b,cap,cur,j,n,d,c,f,g,i⟩
 .exact .inl ⟨e,a⟩
 .exact .inr ⟨b,cap,cur,j,om,d,c,f,g,i⟩
def uC(w:World)(S:Sc)(a:Option Addr)(n cap:Nat)(h:iB w a n cap S.l)(N:n<=1048576):ce 58 #[scV S a n cap] w fun o w'=>∃g k,o=rT (scV S (be g) n k)/\ae w' (w.heap.size+2) (sL (be g) n k) S.l/\Bl w w':=by
 have D:Hid (iB w a n cap S.l):=h;clear h;obtain⟨f,lf,rn,lv,cr,ac,e,i,r,d,l⟩:=S;go_enter func58,ntmps58;go_wp2_with fail;refine(ic _ e i r d a n cap l (D.o.below (Zw.alloc pQ _)) N).mono ?_;rintro o b ⟨g,k,rfl,ho,p⟩;have t:Hid (blk b w.heap.size ([I J f,I J lf,I J rn,I J lv,I J cr,I J ac]++[bO e,I .u32 (i:Int),bO r,I J d,sL a n cap]++[]) 55):=((blk.new w _ 55).alloc _).below p;have G:Hid (blk b (w.heap.size+1) ([]++z11++[]) 55):=by
  have:=(blk.new (w.alloc (.cells [I J f,I J lf,I J rn,I J lv,I J cr,I J ac,bO e,I .u32 (i:Int),bO r,I J d,sL a n cap].toArray 55)) z11 55).below p;simpa[Hid]using this
 have A:Hid (Bl w b):=(Zw.alloc pQ _).trans (p.mono (by simp;omega));have C:Hid (ae b (w.heap.size+2) (sL (be g) n k) l):=ho.mono pQ
 clear p ho;go_wp2_with(first|(refine Zs 53 #[bO e,I .u32 (i:Int),bO r,I J d,sL (be g) n k] (t.o.there 6 5 pQ) gc (lN _ _ _ _ _ _ _) ?_;generalize j:World.setCells b w.heap.size 6 _=c;have H:Hid (World.setCells b w.heap.size 6 [bO e,I .u32 (i:Int),bO r,I J d,sL (be g) n k]=c):=j;have E:Hid (blk c w.heap.size (scL ⟨f,lf,rn,lv,cr,ac,e,i,r,d,l⟩ (be g) n k) 55):=(j ▸ blk.put [I J f,I J lf,I J rn,I J lv,I J cr,I J ac] _ [] _ t.o rfl);have u:Hid (blk c (w.heap.size+1) ([]++z11++[]) 55):=(j ▸ G.o.other om _ _);clear j)|(refine ZG 55 E.o.load underlying55 dh ?_)|(refine Qo (P:=Tp) rfl 55 (.tmp 2) (.tmp 7) rfl (w.heap.size+1) 0 _ rfl rfl (u.o.there 0 11 pQ) dh (lO _ _ _ _ _ _ _ _ _ _ _ _ _) ?_;generalize y:World.setCells c (w.heap.size+1) 0 _=s;have K:Hid (World.setCells c (w.heap.size+1) 0 (scL ⟨f,lf,rn,lv,cr,ac,e,i,r,d,l⟩ (be g) n k)=s):=y;clear y))
 have L:=H.o;have x:=K.o;have hF:blk s (w.heap.size+1) (scL ⟨f,lf,rn,lv,cr,ac,e,i,r,d,l⟩ (be g) n k) 55:=x ▸ blk.put [] z11 [] _ u.o rfl;have M:=Qt (P:=Tp) s (w.heap.size+1) 0 55 _ _ hF.load underlying55 rfl dh;refine bC results58 M ?_;subst L;subst x;exact⟨g,k,rfl,(C.o.setCells om _ _).setCells om _ _,sW om _ _ (sW om _ _ A.o)⟩
end
open Go.IntKind renaming i64->J,u32->Zk
def xx(w:World)(f:Int)(g:f=2\/f=5)(e:Bool)(i:Nat)(hi:i<536870912)(r:Bool)(d:Int)(a:Option Addr)(n cap:Nat)(t:Int)(b:Nat)(k:b<2):ce 61 #[frV e i r d a n cap,I J f,I J t,I J (b:Int)] w fun o w'=>o=rT (frV e ((2*i+b)%536870912) r d a n cap)/\Bl w w':=by
 have c:Hid ((2*(i:Int)+(b:Int))%536870912=(((2*i+b)%536870912:Nat):Int)):=by show _=_;omega
 have j:Hid (i<536870912):=hi;have l:(i:Int)<1000000000:=om;clear hi;generalize (2*i+b)%536870912=h at*;rcases g with rfl|rfl
 all_goals
  go_enter func61,ntmps61;go_wp2;refine Qp (v:=frV e h r d a n cap) (by simp[results,results61,go_sem,c.o]) rfl ?_;exact⟨rfl,Zw.alloc pQ _⟩
def uu(w:World)(f:Int)(g:f=3\/f=6)(e:Bool)(i:Nat)(r:Bool)(d:Int)(a:Option Addr)(n cap:Nat)(t:Int)(b:Nat)(h:b<2):ce 61 #[frV e i r d a n cap,I J f,I J t,I J (b:Int)] w fun o w'=>o=rT (frV e i (b==1) d a n cap)/\Bl w w':=by
 have c:b=0\/b=1:=om;rcases g with rfl|rfl<;>rcases c with rfl|rfl
 all_goals
  go_enter func61,ntmps61;go_wp2;refine Qp (v:=frV e i _ d a n cap) (by simp[results,results61,go_sem];rfl) rfl ?_;exact⟨rfl,Zw.alloc pQ _⟩
def uw(w:World)(e:Bool)(i:Nat)(r:Bool)(d:Int)(a:Option Addr)(n cap:Nat)(t:Int)(b:Nat)(f:b<2):ce 61 #[frV e i r d a n cap,I J 4,I J t,I J (b:Int)] w fun o w'=>o=rT (frV (b==1) i (if b=1 then false else r) d a n cap)/\Bl w w':=by
 have c:b=0\/b=1:=om;rcases c with rfl|rfl
 .go_enter func61,ntmps61;go_wp2;refine Qp (v:=frV false i r d a n cap) (by simp[results,results61,go_sem]) rfl ?_;exact⟨rfl,Zw.alloc pQ _⟩
 .go_enter func61,ntmps61;go_wp2;refine Qp (v:=frV true i false d a n cap) (by simp[results,results61,go_sem]) rfl ?_;exact⟨rfl,Zw.alloc pQ _⟩
def uy(w:World)(e:Bool)(i:Nat)(r:Bool)(d:Int)(hd:0<=d)(f:d<=15)(a:Option Addr)(n cap:Nat)(t:Int)(b:Nat)(c:b<2):ce 61 #[frV e i r d a n cap,I J 8,I J t,I J (b:Int)] w fun o w'=>o=rT (frV e i r ((2*d+b)%16) a n cap)/\Bl w w':=by
 go_enter func61,ntmps61;go_wp2;refine Qp (v:=frV e i r ((2*d+b)%16) a n cap) (by simp[results,results61,go_sem]) rfl ?_;exact⟨rfl,Zw.alloc pQ _⟩
def uv(w:World)(f:Int)(c:f≠2)(g:f≠3)(h:f≠4)(j:f≠5)(k:f≠6)(h8:f≠8)(l:f≠9)(e:Bool)(i:Nat)(r:Bool)(d:Int)(a:Option Addr)(n cap:Nat)(t:Int)(b:Nat):ce 61 #[frV e i r d a n cap,I J f,I J t,I J (b:Int)] w fun o w'=>o=rT (frV e i r d a n cap)/\Bl w w':=by
 go_enter func61,ntmps61;go_wp2;refine Qp (v:=frV e i r d a n cap) (by simp[results,results61,go_sem]) rfl ?_;exact⟨rfl,Zw.alloc pQ _⟩
def uz(w:World)(B:Nat)(hB:B<=w.heap.size)(e:Bool)(i:Nat)(r:Bool)(d:Int)(g n k:Nat)(l:List Nat)(ho:ae w B (sL (be g) n k) l)(C:n=l.length)(a1:n<=8)(t:Nat)(ht:t%8=0)(a2:t<=100)(b:Nat)(hb:b<2):ce 61 #[frV e i r d (be g) n k,I J 9,I J (t:Int),I J (b:Int)] w fun o w'=>∃a c,o=rT (frV e i r d (be a) (n+1) c)/\ae w' B (sL (be a) (n+1) c) (l++[b])/\Below B w w'/\(∀q,q≠g->q<w.heap.size->w'.heap[q]?=w.heap[q]?)/\(a=g\/w.heap.size<=a):=by
 have Q:Hid (n=l.length):=C;have p:=Qm ho g rfl;have O:Hid (B<=g/\g<w.heap.size):=p;have R:Hid (World.ownsRow (((w.alloc (.cells #[bO e,I Zk (i:Int),bO r,I J d,sL (be g) n k] 53)).alloc (.cells #[bO false,I Zk 0,bO false,I J 0,sL nn 0 0] 53)).alloc (.cells #[I .u8 (b:Int)] 5)) B 5 1 (sL (be g) n k) n (bv l)):=by
  have:=ho.below ((((bW w.heap.size w).alloc (nR _) (.cells #[bO e,I Zk (i:Int),bO r,I J d,sL (be g) n k] 53)).alloc pQ (.cells #[bO false,I Zk 0,bO false,I J 0,sL nn 0 0] 53)).alloc (by simp;omega) (.cells #[I .u8 (b:Int)] 5));unfold ae at this;rw[<- C]at this;exact this
 have T:Hid (blk (((w.alloc (.cells #[bO e,I Zk (i:Int),bO r,I J d,sL (be g) n k] 53)).alloc (.cells #[bO false,I Zk 0,bO false,I J 0,sL nn 0 0] 53)).alloc (.cells #[I .u8 (b:Int)] 5)) w.heap.size [bO e,I Zk (i:Int),bO r,I J d,sL (be g) n k] 53):=((blk.new w _ 53).alloc _).alloc _;have W:Hid (blk (((w.alloc (.cells #[bO e,I Zk (i:Int),bO r,I J d,sL (be g) n k] 53)).alloc (.cells #[bO false,I Zk 0,bO false,I J 0,sL nn 0 0] 53)).alloc (.cells #[I .u8 (b:Int)] 5)) (w.heap.size+1) ([]++[bO false,I Zk 0,bO false,I J 0,sL nn 0 0]++[]) 53):=by
  have:=(blk.new (w.alloc (.cells #[bO e,I Zk (i:Int),bO r,I J d,sL (be g) n k] 53)) [bO false,I Zk 0,bO false,I J 0,sL nn 0 0] 53).alloc (.cells #[I .u8 (b:Int)] 5);simpa[Hid]using this
 have Y:Hid (blk (((w.alloc (.cells #[bO e,I Zk (i:Int),bO r,I J d,sL (be g) n k] 53)).alloc (.cells #[bO false,I Zk 0,bO false,I J 0,sL nn 0 0] 53)).alloc (.cells #[I .u8 (b:Int)] 5)) (w.heap.size+1+1) [I .u8 (b:Int)] 5):=by
  have:=blk.new ((w.alloc (.cells #[bO e,I Zk (i:Int),bO r,I J d,sL (be g) n k] 53)).alloc (.cells #[bO false,I Zk 0,bO false,I J 0,sL nn 0 0] 53)) [I .u8 (b:Int)] 5;simpa[Hid]using this
 have D:Hid (Bl w (((w.alloc (.cells #[bO e,I Zk (i:Int),bO r,I J d,sL (be g) n k] 53)).alloc (.cells #[bO false,I Zk 0,bO false,I J 0,sL nn 0 0] 53)).alloc (.cells #[I .u8 (b:Int)] 5))):=(Zw.alloc pQ _).alloc (by simp;omega) _;have h8:((t:Int)).tmod 8=0:=by rw[QZ om];omega
 clear ho C p;go_enter func61,ntmps61
 go_wp2_with(first|(at_builtin;refine wg rfl (.tmp 51) (.tmp 54) 33 5 _ 1 1 info5 underlying33 rfl (by decide) (by decide) rfl B g n k (bv l) rfl R.o (w.heap.size+1+1) [I .u8 (b:Int)] rfl rfl Y.o (by intro u M;simp at M;subst M;rfl) om (by simp;omega) ?_;intro a c f L j A a0;have p:=O.o;have s:=T.o.kept (j.block _ (by simp;omega) (by intro e;cases e;omega));have H:=W.o.kept (j.block _ pQ (by intro e;cases e;omega));have x4:=s.cell 4 _ rfl;have f4:=s.free 4;have U:Hid (blk f w.heap.size [bO e,I Zk (i:Int),bO r,I J d,sL (be g) n k] 53):=s;have G:Hid (blk f (w.heap.size+1) ([]++[bO false,I Zk 0,bO false,I J 0,sL nn 0 0]++[]) 53):=H;have S:Hid (f.ownsRow B 5 1 (sL (be a) (n+1) c) (n+1) (bv l++[I .u8 (b:Int)])):=L;have E:Hid ((∀q,q≠g->q<w.heap.size->f.heap[q]?=w.heap[q]?)/\(a=g\/w.heap.size<=a)):=⟨fun q h1 y=>(j.block q (by simp;omega) (by intro e;cases e;exact h1 rfl)).trans (D.o.block q y),Or.elim A (fun h=>qp h) (fun h=>qt (by rw[h];simp;omega))⟩;have N:Hid (Below B w f/\(a<w.heap.size\/w.heap.size+1<a)):=⟨(D.o.mono hB).grown j (by simp;omega) (by intro q hq;cases hq;exact p.1),Or.elim A (fun h=>qp om) (fun h=>qt (by rw[h];simp))⟩;clear s H L j p A a0)|(refine ZG 53 (U.o.set 4 (sL (be a) (n+1) c)).load underlying53 gc ?_)|(refine Zs 53 #[bO e,I Zk (i:Int),bO r,I J d,sL (be a) (n+1) c] ((G.o.setOther om 4 (sL (be a) (n+1) c)).there 0 5 pQ) gc (lN _ _ _ _ _ _ _) ?_;generalize K:World.setCells (World.setCell _ _ _) (w.heap.size+1) 0 _=x;have X:Hid (World.setCells (f.setCell ⟨w.heap.size,4,nn⟩ (sL (be a) (n+1) c)) (w.heap.size+1) 0 [bO e,I Zk (i:Int),bO r,I J d,sL (be a) (n+1) c]=x):=K;clear K))
 have v:=X.o;have hF:blk x (w.heap.size+1) [bO e,I Zk (i:Int),bO r,I J d,sL (be a) (n+1) c] 53:=v ▸ blk.put [] [bO false,I Zk 0,bO false,I J 0,sL nn 0 0] [] _ (G.o.setOther om 4 _) rfl;have hL:=Qt (P:=Tp) x (w.heap.size+1) 0 53 _ _ hF.load underlying53 rfl gc;refine bC results61 hL ?_;obtain⟨Z,b2⟩:=N.o;refine⟨a,c,rfl,?_,?_,fun q h1 y=>?_,E.o.2⟩
 .have h1:=eJ (w':=x) S.o (by rw[<- v,sO _ _ om,Ql _ _ _ _ (by show a≠w.heap.size;omega)]);unfold ae;rw[oC,QX,<- Q.o];exact h1
 .rw[<- v];exact sW om _ _ (Z.setCell (by show B<=w.heap.size;omega) _)
 .rw[<- v,sO _ _ om,Ql _ _ _ _ (by show q≠w.heap.size;omega)];exact E.o.1 q h1 y
structure tS(w:World)(B:Nat)(e:Bool)(i:Nat)(r:Bool)(d:Int)(g n k:Nat)(W:World):Prop where
 p:blk W w.heap.size [bO e,I Zk (i:Int),bO r,I J d,sL (be g) n k] 53
 r:blk W (w.heap.size+1) ([]++[bO false,I Zk 0,bO false,I J 0,sL nn 0 0]++[]) 53
 b:Below B w W
def Aj(x b:Nat):IntKind.u8.wrap (IntKind.u8.wrap (2*(x:Int))+(b:Int))=(((2*x+b)%256:Nat):Int):=by
 rw[IntKind.wrap_u8,IntKind.wrap_u8];omega
def A4(l:List Nat)(j x:Nat):bv (l.set j x)=(bv l).set j (I .u8 (x:Int)):=by simp[bv,List.map_set]
def sG(w:World)(B:Nat)(hB:B<=w.heap.size)(e:Bool)(i:Nat)(r:Bool)(d:Int)(g m k:Nat)(l:List Nat)(ho:ae w B (sL (be g) (m+1) k) l)(G:m+1=l.length)(a8:m<=7)(t:Nat)(ht:t%8≠0)(ac:t<=100)(b:Nat)(hb:b<2):ce 61 #[frV e i r d (be g) (m+1) k,I J 9,I J (t:Int),I J (b:Int)] w fun o w'=>o=rT (frV e i r d (be g) (m+1) k)/\ae w' B (sL (be g) (m+1) k) (l.set m ((2*l.getD m 0+b)%256))/\Below B w w'/\(∀q,q≠g->q<w.heap.size->w'.heap[q]?=w.heap[q]?):=by
 have E:=Qm ho g rfl;have n:=hI E;have h1:w.ownsRow B 5 1 (sL (be g) (m+1) k) (m+1) (bv l):=by unfold ae at ho;rw[<- G]at ho;exact ho
 have C:Hid (w.cell? ⟨g,m,nn⟩=sQ (I .u8 ((l.getD m 0:Nat):Int))/\w.frozen? ⟨g,m,nn⟩=false):=by
  have f:=QJ h1 m om;have O:m<l.length:=om;rw[oz l m O]at f;simp only[List.getD,Q4 O,Option.getD_some];exact⟨f,QF h1 m⟩
 have N:=hI h1;have X:=hI G;have a6:m+1<=k:=by
  rcases h1.2 with⟨e,_⟩|⟨g1,cap,cur,a5,hb,hg,a3,a7,a9,ad⟩
  .cases e
  .cases a5;exact a3
 generalize hX:l.getD m 0=x at*;have HE:=Aj x b;generalize (2*x+b)%256=y at*;have Q:tS w B e i r d g (m+1) k ((w.alloc (.cells #[bO e,I Zk (i:Int),bO r,I J d,sL (be g) (m+1) k] 53)).alloc (.cells #[bO false,I Zk 0,bO false,I J 0,sL nn 0 0] 53)):=by
  refine⟨(blk.new w _ 53).alloc _,?_,(Zw.alloc pQ _).mono hB⟩;have:=blk.new (w.alloc (.cells #[bO e,I Zk (i:Int),bO r,I J d,sL (be g) (m+1) k] 53)) [bO false,I Zk 0,bO false,I J 0,sL nn 0 0] 53;simpa using this
 have c:Hid (tS w B e i r d g (m+1) k ((w.alloc (.cells #[bO e,I Zk (i:Int),bO r,I J d,sL (be g) (m+1) k] 53)).alloc (.cells #[bO false,I Zk 0,bO false,I J 0,sL nn 0 0] 53))/\Bl w ((w.alloc (.cells #[bO e,I Zk (i:Int),bO r,I J d,sL (be g) (m+1) k] 53)).alloc (.cells #[bO false,I Zk 0,bO false,I J 0,sL nn 0 0] 53))):=⟨Q,Zw.alloc pQ _⟩
 have h8:((t:Int)).tmod 8≠0:=by rw[QZ om];omega
 clear ho G E Q hX h1;go_enter func61,ntmps61;go_wp2_with fail;refine Qu (S:=tS w B e i r d g (m+1) k) kr ?_;generalize a2:(w.alloc (.cells #[bO e,I Zk (i:Int),bO r,I J d,sL (be g) (m+1) k] 53)).alloc (.cells #[bO false,I Zk 0,bO false,I J 0,sL nn 0 0] 53)=D at*;obtain⟨a,M⟩:∃a,a=D.drew:=⟨_,rfl⟩
 change wpAnyH _ _ _ _ _ _ _ _ D.drew;rw[<- M];have j:Bl D a:=M ▸ (bW _ _).drew;have hs:tS w B e i r d g (m+1) k a:=⟨c.o.1.p.below j,c.o.1.r.below j,c.o.1.b.trans (j.mono (nT hB c.o.2.size))⟩
 have u:=hI (c.o.2.trans (j.mono c.o.2.size));have hc:=(u.o.cell (p:=⟨g,m,nn⟩) n.o.2).trans C.o.1;have a4:=(u.o.frozen (p:=⟨g,m,nn⟩) n.o.2).trans C.o.2;have Y:=hI (eJ N.o (u.o.block g n.o.2));clear c j M a2 N C;refine wV 0 (pT (sQ ⟨w.heap.size,4,nn⟩)) ?_ hs ?_
 .intro W hW;clear hs;go_simp
 simp only[Act.put,aA,aB,aC,aD,aE];refine wV 1 (sL (be g) (m+1) k) ?_ hs ?_
 .intro W hW;clear hs;have z4:=hW.p.cell 4 _ rfl;go_simp
 simp only[aZ];refine wV 2 (I J (m:Int)) ?_ hs ?_
 .intro W hW;clear hs;go_simp
 simp only[aZ];refine wV 3 (pT (sQ ⟨w.heap.size,4,nn⟩)) ?_ hs ?_
 .intro W hW;clear hs;go_simp
 simp only[aZ];refine wV 4 (sL (be g) (m+1) k) ?_ hs ?_
 .intro W hW;clear hs;have z4:=hW.p.cell 4 _ rfl;go_simp
 simp only[aZ];refine wV 5 (I J (m:Int)) ?_ hs ?_
 .intro W hW;clear hs;go_simp
 simp only[aZ];refine wV 6 (pT (sQ ⟨g,m,nn⟩)) ?_ hs ?_
 .intro W hW;clear hs;go_simp;intro a1;omega
 simp only[aZ];refine wV 9 (I J (b:Int)) ?_ hs ?_
 .intro W hW;clear hs;go_simp
 simp only[aZ];refine wV 10 (I .u8 (b:Int)) ?_ hs ?_
 .intro W hW;clear hs;go_simp;rw[IntKind.wrap_u8];omega
 simp only[aZ];refine Qq (rs:=[7]) kr pQ ?_;refine QT rfl (fun K h=>?_) QU;go_simp;refine h.out _ _ hs (fun H=>?_);clear h K H;refine wV 8 (I .u8 (IntKind.u8.wrap (2*(x:Int)))) ?_ hs ?_
 .intro W hW;clear hs;go_simp
 simp only[aZ];refine wV 11 (I .u8 (y:Int)) ?_ hs ?_
 .intro W hW;clear hs;go_simp
 simp only[aZ];refine wV 12 (pT (sQ ⟨g,m,nn⟩)) ?_ hs ?_
 .intro W hW;clear hs;go_simp;intro a1;omega
 simp only[aZ];refine Qq (rs:=[13]) kr pQ ?_;refine QT rfl (fun K h=>?_) QU;go_simp;have E:=n.o;have L:tS w B e i r d g (m+1) k (a.setCell ⟨g,m,nn⟩ (I .u8 (y:Int))):=⟨hs.p.setOther om _ _,hs.r.setOther om _ _,hs.b.setCell (by show B<=g;omega) _⟩
 refine h.out _ _ L (fun H=>?_);clear h K H hs;refine Qs kr ?_ _;have s:Hid _:=L;have U:Hid (∀q,q≠g->q<w.heap.size->(a.setCell ⟨g,m,nn⟩ (I .u8 (y:Int))).heap[q]?=w.heap[q]?):=fun q h1 f=>(Ql _ _ _ _ (by exact h1)).trans (u.o.block q f);have Z:Hid ((a.setCell ⟨g,m,nn⟩ (I .u8 (y:Int))).ownsRow B 5 1 (sL (be g) (m+1) k) (m+1) ((bv l).set m (I .u8 (y:Int)))):=(World.ownsRow.stored Y.o m _).1
 generalize a.setCell ⟨g,m,nn⟩ (I .u8 (y:Int))=T at*;clear L hc a4;go_wp2_with(first|(refine ZG 53 s.o.p.load underlying53 gc ?_)|(refine Zs 53 #[bO e,I Zk (i:Int),bO r,I J d,sL (be g) (m+1) k] (s.o.r.there 0 5 pQ) gc (lN _ _ _ _ _ _ _) ?_;generalize R:World.setCells T (w.heap.size+1) 0 _=A;have a0:Hid (World.setCells T (w.heap.size+1) 0 [bO e,I Zk (i:Int),bO r,I J d,sL (be g) (m+1) k]=A):=R;clear R))
 have v:=a0.o;have hF:blk A (w.heap.size+1) [bO e,I Zk (i:Int),bO r,I J d,sL (be g) (m+1) k] 53:=v ▸ blk.put [] [bO false,I Zk 0,bO false,I J 0,sL nn 0 0] [] _ s.o.r rfl;have hL:=Qt (P:=Tp) A (w.heap.size+1) 0 53 _ _ hF.load underlying53 rfl gc;refine bC results61 hL ?_;refine⟨rfl,?_,?_,fun q h1 f=>?_⟩
 .have h1:=eJ (w':=A) Z.o (by rw[<- v,sO _ _ om]);unfold ae;rw[A4,qE,<- X.o];exact h1
 .rw[<- v];exact sW om _ _ s.o.b
 .rw[<- v,sO _ _ om];exact U.o q h1 f
def eu(l:List Nat)(lf:Int)(b:Nat):List Nat:=if lf%8=0 then l++[b]else l.set (l.length-1) ((2*l.getD (l.length-1) 0+b)%256)
def aQ(S:Sc)(b:Nat):Sc:=
 if S.f=2\/S.f=5 then{S with i:=(2*S.i+b)%536870912}
 else if S.f=3\/S.f=6 then{S with r:=b==1}
 else if S.f=4 then{S with e:=b==1,r:=if b=1 then false else S.r}
 else if S.f=8 then{S with d:=(2*S.d+b)%16}
 else if S.f=9 then{S with l:=eu S.l S.lf b}
 else S
def uA(w:World)(B:Nat)(hB:B<=w.heap.size)(S:Sc)(hS:okS S)(g n k:Nat)(ho:ae w B (sL (be g) n k) S.l)(x:n=S.l.length)(t:Int)(Q:t=aS S.f S.e S.d-S.lf)(b:Nat)(u:b<2):ce 61 #[frV S.e S.i S.r S.d (be g) n k,I J S.f,I J t,I J (b:Int)] w fun o w'=>∃a p j,o=rT (frV (aQ S b).e (aQ S b).i (aQ S b).r (aQ S b).d (be a) p j)/\ae w' B (sL (be a) p j) (aQ S b).l/\p=(aQ S b).l.length/\Below B w w'/\(∀q,q≠g->q<w.heap.size->w'.heap[q]?=w.heap[q]?)/\(a=g\/w.heap.size<=a):=by
 have y:∀(X:Sc),X=aQ S b->X.l=S.l->(∀(o:Ending)(w':World),o=rT (frV X.e X.i X.r X.d (be g) n k)/\Bl w w'->∃a p j,o=rT (frV (aQ S b).e (aQ S b).i (aQ S b).r (aQ S b).d (be a) p j)/\ae w' B (sL (be a) p j) (aQ S b).l/\p=(aQ S b).l.length/\Below B w w'/\(∀q,q≠g->q<w.heap.size->w'.heap[q]?=w.heap[q]?)/\(a=g\/w.heap.size<=a)):=by
  rintro X rfl G o w' ⟨rfl,A⟩;exact⟨g,n,k,rfl,by rw[G];exact ho.below A,by rw[G];exact x,A.mono hB,fun q _ c=>A.block q c,qp rfl⟩
 obtain⟨s1,s2,P,H,K,s6,s7,s8,s9,a0,a1,a2,a3,a4,a5,a6,a7,a8,O⟩:=hS;by_cases h1:S.f=2\/S.f=5
 .exact (xx w S.f h1 S.e S.i P S.r S.d _ n k t b u).mono (y {S with i:=(2*S.i+b)%536870912} (by unfold aQ;rw[QW h1]) rfl)
 by_cases c:S.f=3\/S.f=6
 .exact (uu w S.f c S.e S.i S.r S.d _ n k t b u).mono (y {S with r:=b==1} (by unfold aQ;rw[QV h1,QW c]) rfl)
 by_cases s:S.f=4
 .have:=uw w S.e S.i S.r S.d (be g) n k t b u;rw[<- s]at this;exact this.mono (y {S with e:=b==1,r:=if b=1 then false else S.r} (by unfold aQ;rw[QV h1,QV c,QW s]) rfl)
 by_cases v:S.f=8
 .have:=uy w S.e S.i S.r S.d H K (be g) n k t b u;rw[<- v]at this;exact this.mono (y {S with d:=(2*S.d+b)%16} (by unfold aQ;rw[QV h1,QV c,QV s,QW v]) rfl)
 by_cases h:S.f=9
 .have e:aQ S b={S with l:=eu S.l S.lf b}:=by unfold aQ;rw[QV h1,QV c,QV s,QV v,QW h]
  rw[e];obtain⟨W,Y,Z⟩:=O h;have M:aS S.f S.e S.d=if S.d > 8 then 64 else 8*S.d:=by unfold aS;rw[h];rfl
  have R:aS S.f S.e S.d%8=0:=by rw[M];split<;>omega
  have U:=iu S.f S.e S.d H K;obtain⟨T,rfl⟩:∃T:Nat,t=(T:Int):=⟨t.toNat,om⟩
  by_cases h8:S.lf%8=0
  .have:=uz w B hB S.e S.i S.r S.d g n k S.l ho x om T om om b u;rw[<- h]at this;refine this.mono ?_;rintro o w' ⟨a,j,rfl,C,D,E,N⟩;exact⟨a,n+1,j,rfl,by show ae w' B _ (eu S.l S.lf b);unfold eu;rw[QW h8];exact C,by show n+1=(eu S.l S.lf b).length;unfold eu;rw[QW h8,QX,x];rfl,D,E,N⟩
  .obtain⟨m,rfl⟩:∃m,n=m+1:=⟨n-1,om⟩
   have:=sG w B hB S.e S.i S.r S.d g m k S.l ho x om T om om b u;rw[<- h]at this;refine this.mono ?_;rintro o w' ⟨rfl,C,D,E⟩;have L:S.l.length-1=m:=om;exact⟨g,m+1,k,rfl,by show ae w' B _ (eu S.l S.lf b);unfold eu;rw[QV h8,L];exact C,by show m+1=(eu S.l S.lf b).length;unfold eu;rw[QV h8,qE];exact x,D,E,qp rfl⟩
 .exact (uv w S.f om om s om om v h S.e S.i S.r S.d _ n k t b).mono (y S (by unfold aQ;rw[QV h1,QV c,QV s,QV v,QV h]) rfl)
end Go.Proofs.YtbbffcolnddcdaaGreatDoor
