import Derived.Deep.DeepCutAuto
import Derived.Deep.RegionHeld3
import Derived.Test.YtbbffcolnddcdaaGreatDoorK23
import Derived.Test.YtbbffcolnddcdaaGreatDoorK17
import Derived.Deep.MidRow
import Derived.Deep.RegionLaw
namespace Go.Proofs.YtbbffcolnddcdaaGreatDoor
open Go.RowKit
set_option linter.all false
def AR(r:Bool)(d:Int)(h0:0<=d)(h1:d<=15):0<=dL r d/\dL r d<=8:=by
 unfold dL;cases r<;>simp<;>omega
open Go.Proofs.Tryz
open Go.Value renaming int->I,slice->sL,bool->bO,pointer->pT,agg->aG
open Go.IntKind renaming i64->J
open Go.Ending renaming returned->rT
open Go.Proofs.Tryz renaming prog->Tp
def iF(w:World)(c:Bool):ce 260 #[bO c] w fun o w'=>o=rT (I J (if c=true then 0 else 4))/\w'=w:=by
 cases c;all_goals
  go_enter func260,ntmps260;go_wp2;go_ret;exact⟨rfl,rfl⟩
def CC(w:World)(c:Int):ce 231 #[I J c] w fun o w'=>bH o (c=0\/c=1)/\w'=w:=by
 go_enter func231,ntmps231;go_wp2;all_goals(go_ret;refine⟨⟨_,rfl,?_⟩,rfl⟩;simp_all)
set_option maxHeartbeats 8000000
set_option maxRecDepth 20000
structure cx where
 P:Nat
 o:Nat
 T:TypeId
 pre:List Value
 post:List Value
def nb(w:World)(q:Nat):Prop:=∃c e z,w.heap[q]?=some (.cells c e z)/\e≠5
structure sK(c:cx)(w w':World)(B:Nat)(S:Sc)(a:Option Addr)(n k:Nat):Prop where
 e:c.pre.length=c.o
 q:blk w' c.P (c.pre++scL S a n k++c.post) c.T
 o:ae w' B (sL a n k) S.l
 l:n=S.l.length
 b:Below c.P w w'
 r:∀q,q≠c.P->q<B\/nb w q->w'.heap[q]?=w.heap[q]?
 z:B<=w'.heap.size/\c.P<B/\0<c.P
 t:w'.rangeAt 0 0 cQ
def nb.lt{w:World}{q:Nat}(h:nb w q):q<w.heap.size:=by
 obtain⟨c,e,z,h1,_⟩:=h;exact(Array.getElem?_eq_some_iff.1 h1).1
def nb.kept{w w':World}{q:Nat}(h:nb w q)(e:w'.heap[q]?=w.heap[q]?):nb w' q:=by
 obtain⟨c,x,z,h1,b⟩:=h;exact⟨c,x,z,e.trans h1,b⟩
section
variable{c:cx}{w w' w'':World}{B:Nat}{S S':Sc}{a:Option Addr}{n k:Nat}
def sK.cl(h:sK c w w' B S a n k)(j:Nat)(v:Value)(hv:(scL S a n k)[j]?=some v):w'.cell? ⟨c.P,c.o+j,none⟩=some v:=
 h.q.cell (c.o+j) v (by
  have hj:j<(scL S a n k).length:=(List.getElem?_eq_some_iff.1 hv).1
  rw[Q2,qT (by have:=h.e;omega),<- h.e,Qa,qU hj,hv])
def sK.put(h:sK c w w' B S a n k)(j:Nat)(v:Value)(p:(scL S a n k).set j v=scL S' a n k)(d:S'.l=S.l:=by rfl)(s:j<11:=by decide):sK c w (w'.setCell ⟨c.P,c.o+j,none⟩ v) B S' a n k:=by
 have f:∀q,q≠c.P->(w'.setCell ⟨c.P,c.o+j,none⟩ v).heap[q]?=w'.heap[q]?:=fun q u=>Ql _ _ _ _ (by exact u);refine⟨h.e,?_,by rw[d];exact jY h.o h.z.2.1 _ _,by rw[d];exact h.l,h.b.setCell (by exact nR _) _,fun q h1 g=>(f q h1).trans (h.r q h1 g),by simpa using h.z,fun i x hi=>?_⟩
 .have:=h.q.set (c.o+j) v;rw[Q2,List.set_append_right _ _ (by have:=h.e;omega),show c.o+j-c.pre.length=j by have:=h.e;omega,List.set_append_left _ _ (by exact s),p,<- Q2]at this;exact this
 .rw[<- h.t i x hi];simp only[World.cell?,f 0 (by have:=h.z.2.2;omega)]
def sK.below(h:sK c w w' B S a n k)(hb:Bl w' w''):sK c w w'' B S a n k:=⟨h.e,h.q.below hb,h.o.below hb,h.l,h.b.trans (hb.mono (Q5 h.q.lt)),fun q h1 h2=>(hb.block q (h2.elim (fun h2=>by have:=h.z;omega) fun h2=>(h2.kept (h.r q h1 (.inr h2))).lt)).trans (h.r q h1 h2),⟨nT h.z.1 hb.size,h.z.2⟩,fun j v hv=>(hb.cell (p:=⟨0,0+j,none⟩) (by have:=h.z;show 0<_;omega)).trans (h.t j v hv)⟩
def sK.now(h:sK c w w' B S a n k):sK c w' w' B S a n k:=⟨h.e,h.q,h.o,h.l,bW _ _,fun _ _ _=>rfl,h.z,h.t⟩
def sK.at_(h:sK c w w' B S a n k){a':Option Addr}{n' k':Nat}(h':sK c w' w'' B S' a' n' k'):sK c w w'' B S' a' n' k':=⟨h'.e,h'.q,h'.o,h'.l,h.b.trans h'.b,fun q h1 h2=>(h'.r q h1 (h2.imp id fun h2=>h2.kept (h.r q h1 (.inr h2)))).trans (h.r q h1 h2),h'.z,h'.t⟩
end
def Ew{c:cx}{w:World}{B:Nat}{S:Sc}{a:Option Addr}{n k:Nat}(h:sK c w w B S a n k)(u:1<=S.lf)(b:Nat)(L:b<2):ce 230 #[pT (some ⟨c.P,c.o,none⟩),I J (b:Int)] w fun o w'=>o=rT (I J (cm S.f S.lf S.cr S.ac b))/\Bl w w':=by
 obtain⟨f,lf,rn,lv,cr,ac,e,i,r,d,l⟩:=S;have K:=h.cl 0 _ rfl;rw[Nat.add_zero]at K;have M:=h.cl 1 _ rfl;have N:=h.cl 4 _ rfl;have z5:=h.cl 5 _ rfl;simp only[]at u ⊢;obtain⟨x,g⟩:∃x,cm f lf cr ac b=x:=⟨_,rfl⟩
 obtain⟨j,s⟩:∃q,(lf==1)=q:=⟨_,rfl⟩
 obtain⟨v,t⟩:∃q,(lf==2)=q:=⟨_,rfl⟩
 obtain⟨ne,y⟩:∃q,(ac !=cr)=q:=⟨_,rfl⟩
 have p:Hid ((if f=1 then(if b=1 then 4 else 0)else if f=11 then(if b=0 then 4 else 0)else if f=13 then(if b=0 then 4 else if ne=false then 0 else 5)else if f=14 then(if b=0 then(if j=false then 4 else 6)else if v=true then 1 else if j=true then 2 else 0)else 0:Int)=x):=by
  show _=_;rw[<- g,<- s,<- t,<- y];unfold cm;simp only[bne_eq_false_iff_eq,beq_eq_false_iff_ne,beq_iff_eq];rcases(show b=0\/b=1 by omega)with rfl|rfl<;>simp<;>(repeat' split)<;>first|rfl|omega
 have A:f=1\/f=11\/f=13\/f=14\/((f==1)=false/\(f==11)=false/\(f==13)=false/\(f==14)=false):=by simp;omega
 rw[g];clear h g u;rcases A with rfl|rfl|rfl|rfl|⟨C,D,E,G⟩
 case' inr.inr.inl=>cases ne
 case' inr.inr.inr.inl=>cases j<;>cases v
 all_goals rcases(show b=0\/b=1 by omega)with rfl|rfl
 all_goals
  try rw[QV (by simpa using C),QV (by simpa using D),QV (by simpa using E),QV (by simpa using G)]at p
  go_enter func230,ntmps230;go_wp2_with(go_at_call 260;refine(iF _ _).mono ?_;rintro o H ⟨rfl,rfl⟩);try(go_quiet (fail);go_wp2_with(go_at_call 260;refine(iF _ _).mono ?_;rintro o H ⟨rfl,rfl⟩))
  go_ret;exact⟨aL (by first|exact p.o|(simp at s t;omega)),by first|exact bW _ _|exact QB (bW _ _) _⟩
def Fe{c:cx}{w:World}{B:Nat}{S:Sc}{a:Option Addr}{n k:Nat}(h:sK c w w B S a n k)(A:0<=S.rn/\S.rn<=5)(b:Nat)(E:b<2):ce 232 #[pT (some ⟨c.P,c.o,none⟩),I J (b:Int)] w fun o w'=>(∃v,o=rT v)/\sK c w w' B (bG S b) a n k:=by
 obtain⟨f,lf,rn,lv,cr,ac,e,i,r,d,l⟩:=S;simp only[]at A;have s:Hid (sK c w w B _ a n k):=h;have C:=h.cl 0 _ rfl;rw[Nat.add_zero]at C;have G:=h.cl 2 _ rfl;have H:=h.cl 3 _ rfl;have D:=fun j=>h.q.free j;obtain⟨g,y⟩:∃q,((b:Int)==lv)=q:=⟨_,rfl⟩
 have x:Hid (11<=f\/(f<11/\0<rn/\g=true)\/(f<11/\(rn<=0\/g=false))):=by cases g<;>simp[Hid]<;>omega
 have t:Hid (((b:Int)=lv)↔g=true):=by show _↔_;rw[<- y];simp
 clear h;rcases x.o with h1|⟨h1,p,rfl⟩|⟨h1,p⟩
 .go_enter func232,ntmps232;go_wp2_with fail;go_end0;rw[sR om];exact⟨⟨_,rfl⟩,(s.o.put (S':=⟨f,lf,0,lv,cr,ac,e,i,r,d,l⟩) 2 (I J 0) rfl).put 3 (I J 0) rfl⟩
 .go_enter func232,ntmps232;go_wp2_with fail;go_end0;have u:=t.o.2 (by trivial);rw[sP om p u,u];exact⟨⟨_,rfl⟩,s.o.put (S':=⟨f,lf,rn+1,lv,cr,ac,e,i,r,d,l⟩) 2 (I J (rn+1)) rfl⟩
 .rcases p with p|rfl;all_goals
   go_enter func232,ntmps232;go_wp2_with fail
  all_goals
   go_end0;rw[og om (fun h=>by first|(have:=h.1;omega)|(have:=t.o.1 h.2;simp at this))];exact⟨⟨_,rfl⟩,(s.o.put (S':=⟨f,lf,1,lv,cr,ac,e,i,r,d,l⟩) 2 (I J 1) rfl).put 3 (I J (b:Int)) rfl⟩
open Option renaming none->nn,some->sQ
section
variable{w v w':World}{B n k:Nat}{a:Option Addr}
def sK.re{c:cx}{S:Sc}(h:sK c w v B S a n k)(hb:Below B v w')(hk:∀q,nb w q->w'.heap[q]?=v.heap[q]?){l':List Nat}(ho:ae w' B (sL a n k) l')(hl:n=l'.length):sK c w w' B {S with l:=l'} a n k:=
 ⟨h.e,h.q.kept (hb.block _ h.z.2.1),ho,hl,h.b.trans (hb.mono (Q5 h.z.2.1)),fun q h1 h2=>(h2.elim (hb.block q) (hk q)).trans (h.r q h1 h2),⟨nT h.z.1 hb.size,h.z.2⟩,fun j v hv=>(hb.cell (p:=⟨0,0+j,nn⟩) (by have:=h.z;show 0<_;omega)).trans (h.t j v hv)⟩
def sK.row{c:cx}{S:Sc}(h:sK c w v B S a n k)(g:Below B v w')(x:∀q,nb w q->w'.heap[q]?=v.heap[q]?){f:Option Addr}{d i:Nat}{l':List Nat}(ho:ae w' B (sL f d i) l')(y:d=l'.length):sK c w (w'.setCell ⟨c.P,c.o+10,nn⟩ (sL f d i)) B {S with l:=l'} f d i:=by
 have u:∀q,q≠c.P->(w'.setCell ⟨c.P,c.o+10,nn⟩ (sL f d i)).heap[q]?=w'.heap[q]?:=fun q A=>Ql _ _ _ _ (by exact A);refine⟨h.e,?_,jY ho h.z.2.1 _ _,y,(h.b.trans (g.mono (Q5 h.z.2.1))).setCell (by exact nR _) _,fun q h1 s=>(u q h1).trans ((s.elim (g.block q) (x q)).trans (h.r q h1 s)),⟨by have:=g.size;have:=h.z.1;simp;omega,h.z.2⟩,fun j v C=>?_⟩
 .have:=(h.q.kept (g.block _ h.z.2.1)).set (c.o+10) (sL f d i);rw[Q2,List.set_append_right _ _ (by have:=h.e;omega),show c.o+10-c.pre.length=10 by have:=h.e;omega,List.set_append_left _ _ (by show 10<11;decide),<- Q2]at this;exact this
 .rw[<- (g.cell (p:=⟨0,0+j,nn⟩) (by have:=h.z;show 0<_;omega)).trans (h.t j v C)];simp only[World.cell?,u 0 (by have:=h.z;omega)]
def zB{v:Value}{xs:List Value}(h:w.ownsRow B 5 1 v n xs){q:Nat}(hq:nb w q):sQ q≠v.ownBlock:=fun e=>by
 obtain⟨_,⟨rfl,_⟩|⟨g,cap,cur,rfl,_,h3,_⟩⟩:=h
 .cases e
 .obtain⟨c,x,z,e2,e3⟩:=hq;cases e;have e4:=h3.symm.trans e2;injection e4 with e4
  injection e4 with _ e4 _
  exact e3 e4.symm
def Fa{c:cx}{S:Sc}(h:sK c w w B S a n k)(a1:n<=8)(R:1<=S.lf/\S.lf<=64)(h8:S.lf%8=0)(b:Nat)(hb:b<2):ce 261 #[pT (sQ ⟨c.P,c.o,nn⟩),I .u8 (b:Int)] w fun o w'=>(∃v,o=rT v)/\∃Q Y M,sK c w w' B {S with l:=S.l++[b]} Q Y M:=by
 obtain⟨f,lf,rn,lv,cr,ac,e,i,r,d,l⟩:=S;simp only[]at R h8 ⊢;have s:Bl w (w.alloc (.cells #[I .u8 (b:Int)] 5)):=(bW w.heap.size w).alloc (nR _) _;have g:=hI (h.below s);have y:=h.l;have O:=hI y;have u:Hid (World.ownsRow (w.alloc (.cells #[I .u8 (b:Int)] 5)) B 5 1 (sL a n k) n (bv l)):=by
  have:=g.o.o;unfold ae at this;rw[<- y]at this;exact this
 have z1:=h.cl 1 _ rfl;have z10:=h.cl 10 _ rfl;have q8:lf.tmod 8=0:=by rw[QZ om];exact h8
 obtain⟨X,hi,T,U,W⟩:=QH info5;have j:=hI (qB h.z h.q.lt);clear h h8 y;go_enter func261,ntmps261
 go_wp2_with(at_builtin;refine QM _ rfl _ _ 33 rfl B 5 X (I .u8 0) 1 1 underlying33 hi T U W rfl (by decide) (sL a n k) n (bv l) rfl u.o ⟨w.heap.size,0,nn⟩ 1 1 [I .u8 (b:Int)] rfl rfl ?qc2 ?qc3 ?qc4 ?qc5 ?qc6 ?_)
 case qc3=>rfl
 case qc4=>unfold maxLen;omega
 case qc5=>omega
 case qc6=>have:=j.o.1.1;simp;omega
 intro Z D K x H;have G:=fun q(e:(Value.slice a n k).ownBlock=sQ q)=>(Qm u.o q e).1;have t:Hid (Below B (w.alloc (.cells #[I .u8 (b:Int)] 5)) D):=(bW _ _).grown x (by have:=j.o.1.1;simp;omega) (fun q e=>G q e);have A:ae D B Z (l++[b]):=by
  unfold ae;rw[oC,QX,<- O.o];exact K
 rcases A.2 with⟨e,_⟩|⟨g',M,cur,L,_⟩
 .exact Qj e H
 rw[QX]at L;subst L;have E:=g.o.q.kept (t.o.block _ j.o.1.2.1);have a2:D.cell? ⟨c.P,c.o+10,nn⟩=sQ (sL a n k):=(t.o.cell (p:=⟨c.P,c.o+10,nn⟩) (by exact j.o.1.2.1)).trans (g.o.cl 10 _ rfl);have a0:=E.free (c.o+10);have N:=hI (g.o.row t.o (fun q C=>x.block q (nL C.lt s.size) (zB u.o (C.kept (s.block q C.lt)))) A (by rw[QX]));clear E K A x H G s;go_wp2_with fail;refine bN ?_;exact⟨⟨_,rfl⟩,_,_,_,N.o⟩
def Ic:∀x:Fin 256,∀b:Fin 2,bits BinOp.or IntKind.u8 (IntKind.u8.wrap ((x.val:Int)*2)) (b.val:Int)=(((2*x.val+b.val)%256:Nat):Int):=by decide +kernel
def Cv{c:cx}{S:Sc}{m:Nat}(h:sK c w w B S a (m+1) k)(a1:m<=7)(C:∀x∈S.l,x<256)(T:1<=S.lf/\S.lf<=64)(h8:¬S.lf%8=0)(b:Nat)(G:b<2):ce 261 #[pT (sQ ⟨c.P,c.o,nn⟩),I .u8 (b:Int)] w fun o w'=>(∃v,o=rT v)/\sK c w w' B {S with l:=S.l.set m ((2*S.l.getD m 0+b)%256)} a (m+1) k:=by
 obtain⟨f,lf,rn,lv,cr,ac,e,i,r,d,l⟩:=S;simp only[]at T h8 C ⊢;obtain⟨g,rfl⟩:∃g,a=be g:=by
  rcases h.o.2 with⟨e,O⟩|⟨Q,cap,cur,t,_⟩
  .exact Qj h.l (by rw[O];omega)
  .simp only[Value.slice.injEq]at t;exact⟨_,t.1⟩
 have s:m+1=l.length:=h.l;have j:m<l.length:=om;obtain⟨x,p⟩:∃x,l.getD m 0=x:=⟨_,rfl⟩
 have U:x<256:=by
  rw[<- p];simp only[List.getD,Q4 j,Option.getD_some];exact C _ (ql _)
 have h1:w.ownsRow B 5 1 (sL (be g) (m+1) k) (m+1) (bv l):=by have:=h.o;unfold ae at this;rw[<- s]at this;exact this
 have W:w.cell? ⟨g,m,nn⟩=sQ (I .u8 (x:Int)):=by
  have E:=QJ h1 m om;rw[oz l m j]at E;rw[<- p];simp only[List.getD,Q4 j,Option.getD_some];exact E
 have X:=QF h1 m;have Z:m+1<=k:=by
  rcases h1.2 with⟨e,_⟩|⟨Q,cap,cur,t,G,Y,R,a0,a3,a4⟩
  .cases e
  .cases t;exact R
 have H:=(Qm h1 g rfl).1;have L:=hI h;have D:Hid (ae (w.setCell ⟨g,m,nn⟩ (I .u8 (((2*x+b)%256:Nat):Int))) B (sL (be g) (m+1) k) (l.set m ((2*x+b)%256))):=by
  unfold ae;rw[A4,qE,<- s];exact(World.ownsRow.stored h1 m _).1
 have z1:=h.cl 1 _ rfl;have z10:=h.cl 10 _ rfl;have q8:(lf%8==0)=false:=by simpa using h8
 rw[p];obtain⟨y,u⟩:∃y,(2*x+b)%256=y:=⟨_,rfl⟩
 have a2:bits BinOp.or IntKind.u8 (IntKind.u8.wrap ((x:Int)*2)) (b:Int)=(y:Int):=by rw[<- u];exact Ic ⟨x,U⟩ ⟨b,G⟩
 rw[u]at D ⊢;have M:=hI s;have K:=hI (qB H h.z.2.1);have N:Hid (∀q,nb w q->q≠g):=fun q A e=>zB h1 A (by rw[e];rfl);clear h h1 j h8 C p u s H;go_enter func261,ntmps261;go_wp2_with fail;go_region_with fail;all_goals
  go_wp2_with fail;go_end0;exact⟨⟨_,rfl⟩,L.o.re (((bW B w).setCell (by exact K.o.1) _).drew) (fun q A=>Ql w ⟨g,_,nn⟩ q _ (N.o q A)) (D.o.below (bW _ _).drew) (by rw[qE];exact M.o)⟩
def Fb{c:cx}{S:Sc}(h:sK c w w B S a n k)(i:n<=8)(j:∀x∈S.l,x<256)(e:1<=S.lf/\S.lf<=64)(hne:¬S.lf%8=0->1<=n)(b:Nat)(d:b<2):ce 261 #[pT (sQ ⟨c.P,c.o,nn⟩),I .u8 (b:Int)] w fun o w'=>(∃v,o=rT v)/\∃g r p,sK c w w' B {S with l:=eu S.l S.lf b} g r p:=by
 unfold eu;by_cases h8:S.lf%8=0
 .rw[QW h8];exact Fa h i e h8 b d
 .rw[QV h8];obtain⟨m,rfl⟩:∃m,n=m+1:=⟨n-1,by have:=hne h8;omega⟩
  rw[show S.l.length-1=m by have:=h.l;omega];exact(Cv h om j e h8 b d).mono fun o w' f=>⟨f.1,_,_,_,f.2⟩
def tA(n:Int)(h0:0<=n)(h1:n<2 ^ 32):bits .and .u32 n 536870911=n%536870912:=
 bits_mask .u32 32 (by decide) (fun n h0 h1=>by rw[IntKind.wrap_u32];omega) 29 (by decide) n h0 h1
end
set_option maxHeartbeats 16000000
def Fd(x b:Nat)(c:x<536870912)(a:b<2):bits BinOp.and IntKind.u32 (bits BinOp.or IntKind.u32 ((x:Int)*2) (b:Int)) 536870911=(((2*x+b)%536870912:Nat):Int):=by
 rw[Ey x b om a,tA _ om om];omega
def vG(x:Int)(b m:Nat)(h0:0<=x)(h1:x<=32767)(a:b<2)(c:m=4\/m=15):bits BinOp.and IntKind.i64 (bits BinOp.or IntKind.i64 (x*2) (b:Int)) (2 ^ m-1)=(2*x+b)%2 ^ m:=by
 obtain⟨y,rfl⟩:∃y:Nat,x=(y:Int):=⟨x.toNat,om⟩
 rw[EB y b om a];rcases c with rfl|rfl
 .exact (bits_mask .i64 62 (by decide) f9 4 (by decide) _ om om).trans (by congr 1)
 .exact (gY _ om om).trans (by congr 1)
structure bd(T:Sc):Prop where
 f1:1<=T.f
 f2:T.f<=14
 i:T.i<536870912
 d0:0<=T.d
 d1:T.d<=15
 n:T.l.length<=8
 l1:1<=T.lf
 l2:T.lf<=64
 cr0:0<=T.cr
 cr1:T.cr<=32767
 ac0:0<=T.ac
 ac1:T.ac<=32767
 sm:∀x∈T.l,x<256
 ne:T.f=9->¬T.lf%8=0->1<=T.l.length
def E5{c:cx}{w:World}{B:Nat}{S:Sc}{a:Option Addr}{n k:Nat}(h:sK c w w B S a n k)(hS:bd S)(b:Nat)(C:b<2):ce 233 #[pT (some ⟨c.P,c.o,none⟩),I J (b:Int)] w fun o w'=>(∃v,o=rT v)/\∃p A u,sK c w w' B (aQ (ew (dZ S b) b) b) p A u:=by
 obtain⟨f,lf,rn,lv,cr,ac,e,i,r,d,l⟩:=S;obtain⟨N,R,T,U,b5,b6,X,Y,Z,a1,O,Q,E,G⟩:=hS;simp only[]at N R T U b5 b6 X Y Z a1 O Q E G;have L:Hid (∀W,ce 259 #[I J cr,I J (b:Int)] W fun o w'=>o=rT (I J ((M.dE cr.toNat b:Nat):Int))/\W=w'):=by
  intro W;have:=iI cr.toNat b W om;rwa [Q6 Z]at this
 have g:=hI h;have z0:=h.cl 0 _ rfl;rw[Nat.add_zero]at z0;have fr:=fun j=>h.q.free j;have z4:=h.cl 4 _ rfl;have z5:=h.cl 5 _ rfl;have z6:=h.cl 6 _ rfl;have z7:=h.cl 7 _ rfl;have z8:=h.cl 8 _ rfl;have z9:=h.cl 9 _ rfl
 have H:Hid (f=9->∀s:Nat,ce 261 #[pT (some ⟨c.P,c.o,none⟩),I .u8 (b:Int)] (w.setCell ⟨c.P,c.o+4,none⟩ (I J (s:Int))) fun o w'=>(∃v,o=rT v)/\∃p A u,sK c w w' B ⟨9,lf,rn,lv,(s:Int),ac,e,i,r,d,eu l lf b⟩ p A u):=fun e9 s=>by
  subst e9;have hk:=h.put (S':=⟨9,lf,rn,lv,(s:Int),ac,e,i,r,d,l⟩) 4 (I J (s:Int)) rfl;refine(Fb hk.now (by have:=h.l;simp only[]at this;omega) E ⟨X,Y⟩ (fun h8=>by have:=h.l;have:=G rfl h8;simp only[]at*;omega) b C).mono ?_;rintro o w' ⟨hv,p,A,u,D⟩;exact⟨hv,p,A,u,hk.at_ D⟩
 have a3:(i:Int)<1000000000:=om;have e1:=Fd i b T C;have e2:=vG d b 4 U om C (qp rfl);have e3:=vG ac b 15 O Q C (qt rfl);simp only[Int.reducePow,Int.reduceSub]at e2 e3;have a2:IntKind.u8.wrap (b:Int)=(b:Int):=by rw[IntKind.wrap_u8];omega
 have a0:b=0\/b=1:=om;have t:(f=3\/f=6\/f=4)\/(f=1\/f=7\/f=2\/f=5\/f=8\/f=9\/f=10\/f=11\/f=12\/f=13\/f=14):=om;clear h N R E G;rcases t with t|t
 .clear H e1 e2 e3 a2;rcases t with rfl|rfl|rfl
  all_goals
   simp only[aQ,ew,dZ,reduceIte,Int.reduceEq,Int.reduceLE,or_true,true_or,or_self];generalize M.dE cr.toNat b=s at*;rcases a0 with rfl|rfl<;>cases r
  all_goals
   try simp only[reduceIte,Nat.zero_ne_one,ite_self,eq_self]
   go_enter func233,ntmps233;go_wp2_with fail;refine(L.o _).mono ?_;rintro o w1 ⟨rfl,rfl⟩;go_wp2_with fail;go_end0;refine⟨⟨_,rfl⟩,a,n,k,?_⟩
   first
    |(have K:=fun x y:Bool=>((g.o.put (S':=⟨4,lf,rn,lv,s,ac,e,i,_,d,l⟩) 4 (I J (s:Int)) rfl).put (S':=⟨4,lf,rn,lv,s,ac,x,i,_,d,l⟩) 6 (bO x) rfl).put (S':=⟨4,lf,rn,lv,s,ac,x,i,y,d,l⟩) 8 (bO y) rfl;first|exact K false false|exact K false true|exact K true false)
    |exact(g.o.put (S':=⟨_,lf,rn,lv,s,ac,e,i,_,d,l⟩) 4 (I J (s:Int)) rfl).put 8 (bO _) rfl
 .clear a0;rcases t with rfl|rfl|rfl|rfl|rfl|rfl|rfl|rfl|rfl|rfl|rfl
  all_goals
   simp only[aQ,ew,dZ,reduceIte,Int.reduceEq,Int.reduceLE,or_true,true_or,or_self];generalize M.dE cr.toNat b=s at*;generalize (2*i+b)%536870912=i' at*;generalize (2*d+b)%16=d' at*;generalize (2*ac+b)%32768=p at*;go_enter func233,ntmps233;go_wp2_with fail;try(refine(L.o _).mono ?_;rintro o w1 ⟨rfl,rfl⟩;go_wp2_with fail)
   try(refine(H.o pQ s).mono ?_;rintro o w2 ⟨⟨v,rfl⟩,D⟩;have HQ:Hid _:=D;clear D;go_wp2_with fail)
   go_end0;refine⟨⟨_,rfl⟩,?_⟩
   first
    |exact HQ.o
    |exact⟨_,_,_,g.o⟩
    |exact⟨_,_,_,g.o.put 5 (I J p) rfl⟩
    |exact⟨_,_,_,g.o.put 4 (I J (s:Int)) rfl⟩
    |exact⟨_,_,_,(g.o.put (S':=⟨_,lf,rn,lv,s,ac,e,i,r,d,l⟩) 4 (I J (s:Int)) rfl).put 7 (I .u32 (i':Int)) rfl⟩
    |exact⟨_,_,_,(g.o.put (S':=⟨_,lf,rn,lv,s,ac,e,i,r,d,l⟩) 4 (I J (s:Int)) rfl).put 9 (I J d') rfl⟩
section
variable{w:World}{B n k:Nat}{a:Option Addr}
def tl{e:Array Oper}{Q:Exit->Act->World->Prop}{p:Region.Mode}{S:World->Prop}{t:Nat}{l:Array Bool}{a:Act}(i:Nat){f:Oper}{s:Act}{r:TypeId}{x:Operand}{b o:Nat}{g:List Value}{d:TypeDesc}
  (h:wpAnyH Tp p e Q S t (l.setIfInBounds i true) s w) (u:∀w,S w->w.rangeAt b o g) (C:Tp.underlying r=sQ d) (G:(Tp.info? r).map (·.size)=sQ g.length)
  (hS:S w:=by assumption)
  (hi:e[i]?=sQ f:=by rfl)
  (j:(Region.noSelect e&&Region.free p e l i&&(Region.ready p e l).contains i)=true:=by kernel_rfl)
  (y:∀c v a w,Q (.panic c) (a.put f.dst v) w->Q (.panic c) a w:=by exact fun _ _ _ _ h=>h)
  (D:Region.wanted f (yielded e a.tmps)=true:=by rfl)
  (ho:f.op= .load r x:=by rfl) (E:a.eval x=pT (sQ ⟨b,o,nn⟩):=by rfl) (hd:d.isRow=true:=by rfl)
  (A:a.put f.dst (aG g.toArray)=s:=by(simp only[aZ];try rfl)) :
  wpAnyH Tp p e Q S (t+1) l a w:=by
 simp only[Q3]at j;subst A;exact wT hi j.1.1 j.1.2 j.2 (fun c a w=>y c _ a w) (Qw D r x ho b o E g d u C hd G) hS h
def sK.fr{c:cx}{w':World}{S:Sc}(h:sK c w w' B S a n k):w'.rangeAt c.P (c.o+6) [bO S.e,I .u32 (S.i:Int),bO S.r,I J S.d,sL a n k]:=by
 have:=blk.loadAt (c.pre++[I J S.f,I J S.lf,I J S.rn,I J S.lv,I J S.cr,I J S.ac]) [bO S.e,I .u32 (S.i:Int),bO S.r,I J S.d,sL a n k] c.post (T:=c.T) (by have:=h.q;simpa[scL]using this);rw[QX,h.e]at this;exact this
def wQ(f:Int)(e r:Bool)(d:Int)(c:f<=13)(hd:0<=d):rsz (ax f e r d) e r d=aS (ax f e r d) e d:=by
 by_cases b:ax f e r d=9
 .have h8:f=8/\r=false:=by
   revert b
   unfold ax;cases e<;>cases r<;>simp<;>(repeat' split)<;>omega
  obtain⟨rfl,rfl⟩:=h8;rw[b];unfold rsz aS dL;simp;split<;>omega
 .unfold rsz;rw[QV b]
def Bj(f:Int)(e r:Bool)(d:Int)(h1:1<=f)(b:f<=13):1<=ax f e r d/\ax f e r d<=14:=by
 unfold ax
 (repeat' split)<;>omega
def Ia:(Tp.info? 271).map (·.size)=sQ 3:=kr
def Gv(a b c:Int):(#[I J a,I J b,I J c]:Array Value).all (·.oneCell')=true:=Qv (by simp[Value.oneCell'])
def De{c:cx}{f rn lv cr ac:Int}{e:Bool}{i:Nat}{r:Bool}{d:Int}{l:List Nat}(h:sK c w w B ⟨f,1,rn,lv,cr,ac,e,i,r,d,l⟩ a n k)(Z:1<=f/\f<=13)(hd:0<=d/\d<=15):ce 234 #[pT (sQ ⟨c.P,c.o,nn⟩)] w fun o w'=>(∃v,o=rT v)/\∃a' n' k',sK c w w' B (cT ⟨f,1,rn,lv,cr,ac,e,i,r,d,l⟩) a' n' k':=by
 have a2:=Bj f e r d Z.1 Z.2;have a3:=wQ f e r d Z.2 hd.1;have a0:Hid (∀W,sK c w W B ⟨f,0,rn,lv,cr,ac,e,i,r,d,l⟩ a n k->ce 235 #[I J f,frV e i r d a n k] W fun o w'=>∃z:Int,o=rT (aG #[I J f,I J z,I J (ax f e r d)])/\Bl W w'):=fun W R=>(iN W R.t (by have:=R.z;omega) f Z.1 om e i r d hd.1 hd.2 _ n k).mono (by rintro o w' ⟨rfl,D⟩;exact⟨_,rfl,D⟩);have Y:Hid (∀W,sK c w W B ⟨f,0,rn,lv,cr,ac,e,i,r,d,l⟩ a n k->ce 235 #[I J (ax f e r d),frV e i r d a n k] W fun o w'=>∃z:Int,o=rT (aG #[I J (ax f e r d),I J (aS (ax f e r d) e d),I J z])/\Bl W w'):=fun W R=>(iN W R.t (by have:=R.z;omega) _ a2.1 a2.2 e i r d hd.1 hd.2 _ n k).mono (by rintro o w' ⟨rfl,D⟩;rw[a3];exact⟨_,rfl,D⟩);have z1:=h.cl 1 _ rfl;have fr:=fun j=>h.q.free j;have HK:=hI (h.put (S':=⟨f,0,rn,lv,cr,ac,e,i,r,d,l⟩) 1 (I J 0) rfl);have HX:Hid (cT ⟨f,1,rn,lv,cr,ac,e,i,r,d,l⟩=⟨ax f e r d,aS (ax f e r d) e d,rn,lv,cr,ac,e,i,r,d,if(ax f e r d==9)=true then[]else l⟩):=by
  show _=_;unfold cT;simp
 clear h a3;generalize ax f e r d=x at*;generalize aS x e d=C at*;go_enter func234,ntmps234;go_upto_region 2 with fail
 go_cut [2] (fun s2 wx=>∃(Q:Nat)(u:Int),s2=ap Q/\blk wx Q [I J x,I J C,I J u] 271/\sK c w wx B ⟨f,0,rn,lv,cr,ac,e,i,r,d,l⟩ a n k/\B<=Q);case first=>
  generalize w.setCell ⟨c.P,c.o+1,nn⟩ (I J 0)=w5 at*;refine Qu (S:=fun X=>sK c w X B ⟨f,0,rn,lv,cr,ac,e,i,r,d,l⟩ a n k) kr ?_;have hs:=HK.o.below (bW _ _).drew;change wpAnyH _ _ _ _ _ _ _ _ w5.drew;generalize w5.drew=v at*;clear HK z1 fr;refine tk 0 ?_;refine tk 1 ?_;refine tk 2 ?_;refine tk 3 ?_ (hy:=fun X G=>by(have y:=sK.cl G 0 _ rfl;rw[Nat.add_zero]at y;go_simp;try rfl));refine tk 4 ?_;refine tk 5 ?_;refine tk 6 ?_;refine tl 7 ?_ (fun X G=>sK.fr G) underlying53 gc;refine tk 10 ?_;refine tk 11 ?_;refine tk 12 ?_;refine tl 13 ?_ (fun X G=>sK.fr G) underlying53 gc;have nx:∀W{z:Int},(Instr.field 271 (aG #[I J f,I J z,I J x]) 2).run Tp W= .ok (I J x) W:=fun W z=>by kernel_rfl
  refine Qq (rs:=[8,15]) kr pQ (QT rfl (fun K s=>?qa) (QT rfl (fun K s=>?qz) QU));case' qa=>((go_simp;refine(a0.o _ hs).mono ?_;rintro o N ⟨y,rfl,D⟩;go_wp2_with fail;have p:=hs.below D;refine s.out _ _ p (fun _=>?_);clear s K hs;have hs:=p;clear p;refine tk 9 ?_ (v:=I J x) (hy:=fun X G=>by(have y:=nx X (z:=y);go_simp;try rfl)));refine Qq (rs:=[14,15]) kr pQ (QT rfl (fun K s=>?qc) (QT rfl (fun K s=>?qb) QU)))
  case' qc=>((go_simp;refine(Y.o _ hs).mono ?_;rintro o U ⟨u,rfl,H⟩;go_wp2_with fail;have p:=hs.below H;refine s.out _ _ p (fun _=>?_);clear s K hs;have hs:=p;clear p);refine al 15 fun K s=>?_;(go_simp;have E:=(bW U.heap.size U).alloc (nR _) (.cells #[I J 0,I J 0,I J 0] 271);have A:=qB (blk.new U [I J 0,I J 0,I J 0] 271) (qB (qB hs.z.1 hs.b.size) fun g L=>(Qm hs.o g L).2);have p:=hs.below E;refine s.out _ _ p (fun _=>?_);clear s K hs;have hs:=p;clear p;clear E;generalize U.alloc (.cells #[I J 0,I J 0,I J 0] 271)=vz at*;generalize U.heap.size=Q at*))
  case' qb=>((go_simp;have E:=(bW N.heap.size N).alloc (nR _) (.cells #[I J 0,I J 0,I J 0] 271);have A:=qB (blk.new N [I J 0,I J 0,I J 0] 271) (qB (qB hs.z.1 hs.b.size) fun g L=>(Qm hs.o g L).2);have p:=hs.below E;refine s.out _ _ p (fun _=>?_);clear s K hs;have hs:=p;clear p;clear E;generalize N.alloc (.cells #[I J 0,I J 0,I J 0] 271)=vy at*;generalize N.heap.size=Q at*);refine al 14 fun K s=>?_;(go_simp;refine(Y.o _ hs).mono ?_;rintro o vz ⟨u,rfl,H⟩;go_wp2_with fail;have p:=hs.below H;refine s.out _ _ p (fun _=>?_);clear s K hs;have hs:=p;clear p);replace A:=qB (A.1.below H) A.2)
  case' qz=>((go_simp;have E:=(bW v.heap.size v).alloc (nR _) (.cells #[I J 0,I J 0,I J 0] 271);have A:=qB (blk.new v [I J 0,I J 0,I J 0] 271) (qB (qB hs.z.1 hs.b.size) fun g L=>(Qm hs.o g L).2);have p:=hs.below E;refine s.out _ _ p (fun _=>?_);clear s K hs;have hs:=p;clear p;clear E;generalize v.alloc (.cells #[I J 0,I J 0,I J 0] 271)=vx at*;generalize v.heap.size=Q at*);refine al 8 fun K s=>?_;(go_simp;refine(a0.o _ hs).mono ?_;rintro o N ⟨y,rfl,D⟩;go_wp2_with fail;have p:=hs.below D;refine s.out _ _ p (fun _=>?_);clear s K hs;have hs:=p;clear p;refine tk 9 ?_ (v:=I J x) (hy:=fun X G=>by(have y:=nx X (z:=y);go_simp;try rfl)));refine al 14 fun K s=>?_;(go_simp;refine(Y.o _ hs).mono ?_;rintro o vz ⟨u,rfl,H⟩;go_wp2_with fail;have p:=hs.below H;refine s.out _ _ p (fun _=>?_);clear s K hs;have hs:=p;clear p);replace A:=qB ((A.1.below D).below H) A.2)
  all_goals
   refine al 16 fun K s=>?_;rw[QW (by rfl)];refine QE (P:=Tp) 271 (.tmp 2) (.tmp 29) rfl Q 0 #[I J x,I J C,I J u] rfl rfl (A.1.there 0 3 pQ) Ia (Gv _ _ _) ?_;have hF:=blk.put [] [I J 0,I J 0,I J 0] [] [I J x,I J C,I J u] (by simpa using A.1) rfl;have hG:=hs.re (w':=World.setCells vz Q 0 [I J x,I J C,I J u]) (l':=l) (sW A.2.1.1 0 _ (bW _ _)) (fun q T=>sO _ q (by have:=T.lt;have:=A.2.1.2;omega) _ _ _) (hs.o.otherBlock fun g L=>sO _ g (by have:=A.2.2 g L;omega) _ _ _) hs.l;refine s.out _ _ hG (fun _=>?_);have HF:=hI (qB hF (qB hG A.2.1.1));clear s K hs hF hG A;refine Qs kr ?_ _;go_wp2_with fail;go_meet;exact⟨Q,u,rfl,HF.o⟩
 case rest=>
 obtain⟨Q,u,rfl,T,M,A⟩:=hcut;have a5:Q≠c.P:=by have:=M.z;omega
 have y0:=T.cell 0 _ rfl;have y1:=T.cell 1 _ rfl;have x0:=M.cl 0 _ rfl;have x1:=M.cl 1 _ rfl;rw[Nat.add_zero]at x0;have fr:=fun j=>M.q.free j;have a1:=hI (((M.put (S':=⟨x,0,rn,lv,cr,ac,e,i,r,d,l⟩) 0 (I J x) rfl).put (S':=⟨x,C,rn,lv,cr,ac,e,i,r,d,l⟩) 1 (I J C) rfl));clear HK z1 a0 Y T M;go_wp2_with fail;go_region_with fail;all_goals
  have O:Hid (sK c w (((wc.setCell ⟨c.P,c.o,nn⟩ (I J x)).setCell ⟨c.P,c.o+1,nn⟩ (I J C)).drew) B ⟨x,C,rn,lv,cr,ac,e,i,r,d,l⟩ a n k):=a1.o.below (bW _ _).drew;clear a1 x0 x1 y0 y1 fr;generalize ((wc.setCell ⟨c.P,c.o,nn⟩ (I J x)).setCell ⟨c.P,c.o+1,nn⟩ (I J C)).drew=V at*;have x0:=O.o.cl 0 _ rfl;rw[Nat.add_zero]at x0;have a6:=O.o.cl 10 _ rfl;have a4:=O.o.q.free (c.o+10);obtain⟨q9,e9⟩:∃q,(x==9)=q:=⟨_,rfl⟩
  rw[e9]at HX;cases q9
  .go_wp2_with fail;go_end0;exact⟨⟨_,rfl⟩,a,n,k,by rw[HX.o];exact O.o⟩
  .go_wp2_with fail;go_end0;exact⟨⟨_,rfl⟩,nn,0,0,by rw[HX.o];exact O.o.row (bW _ _) (fun _ _=>rfl) (iO _ _) rfl⟩
def FE{c:cx}{S:Sc}(h:sK c w w B S a n k)(b:1<=S.f/\(S.lf=1->S.f<=13))(hd:0<=S.d/\S.d<=15)(s:1<=S.lf/\S.lf<=64):ce 234 #[pT (sQ ⟨c.P,c.o,nn⟩)] w fun o w'=>(∃v,o=rT v)/\∃p u t,sK c w w' B (cT S) p u t:=by
 obtain⟨f,lf,rn,lv,cr,ac,e,i,r,d,l⟩:=S;simp only[]at b hd s;by_cases h1:lf=1
 .subst h1;exact De h ⟨b.1,b.2 rfl⟩ hd
 have y:=h.cl 1 _ rfl;have fr:=fun j=>h.q.free j;have g:=hI (h.put (S':=⟨f,lf-1,rn,lv,cr,ac,e,i,r,d,l⟩) 1 (I J (lf-1)) rfl);have x:decide (0<lf-1)=true:=by simp;omega
 unfold cT;rw[QV (by exact h1)];clear h;go_enter func234,ntmps234;go_wp2_with fail;refine bN ?_;exact⟨⟨_,rfl⟩,a,n,k,g.o⟩
end
def dX(S:Sc)(b:Nat):Int:=if S.rn=5 then(if(b:Int)=S.lv then 3 else 0)else cm S.f S.lf S.cr S.ac b
def aI(S:Sc)(b:Nat):Sc:=if S.rn=5 then(if(b:Int)=S.lv then S else{S with rn:=1,lv:=b})else if cm S.f S.lf S.cr S.ac b=0\/cm S.f S.lf S.cr S.ac b=1 then cB S b else S
def C9{S T:Sc}(hS:bd S)(h:T.f=S.f/\T.lf=S.lf/\T.i=S.i/\T.d=S.d/\T.l=S.l/\T.cr=S.cr/\T.ac=S.ac):bd T:=by
 obtain⟨c1,c2,c3,c4,a,b,c⟩:=h;cases hS;constructor<;>simp only[c1,c2,c3,c4,a,b,c]<;>assumption
def mh(S:Sc)(b:Nat):(bG S b).f=S.f/\(bG S b).lf=S.lf/\(bG S b).i=S.i/\(bG S b).d=S.d/\(bG S b).l=S.l/\(bG S b).cr=S.cr/\(bG S b).ac=S.ac:=by unfold bG;split<;>exact⟨rfl,rfl,rfl,rfl,rfl,rfl,rfl⟩
def xJ{S:Sc}{b:Nat}(hS:bd S)(e:b<2):(aQ (ew (dZ (bG S b) b) b) b).f=S.f/\(aQ (ew (dZ (bG S b) b) b) b).lf=S.lf/\0<=(aQ (ew (dZ (bG S b) b) b) b).d/\(aQ (ew (dZ (bG S b) b) b) b).d<=15:=by
 have a:(ew (dZ (bG S b) b) b).f=S.f/\(ew (dZ (bG S b) b) b).lf=S.lf/\(ew (dZ (bG S b) b) b).d=S.d/\(ew (dZ (bG S b) b) b).l=S.l:=by
  obtain⟨c1,c2,c3,c4,g,h,i⟩:=mh S b;unfold ew dZ;refine⟨?_,?_,?_,?_⟩<;>(repeat' split)<;>assumption
 have c:=iH (ew (dZ (bG S b) b) b) b e (by rw[a.2.2.1];exact hS.d0) (by rw[a.2.2.1];exact hS.d1) (by rw[a.2.2.2];exact hS.sm);rw[a.1,a.2.1]at c;exact⟨c.1,c.2.1,c.2.2.1,c.2.2.2.1⟩
def yB{c:cx}{w:World}{B:Nat}{S:Sc}{a:Option Addr}{n k:Nat}(h:sK c w w B S a n k)(hS:bd S)(G:0<=S.rn/\S.rn<=5)(b:Nat)(t:b<2):ce 193 #[pT (some ⟨c.P,c.o,none⟩),I J (b:Int)] w fun o w'=>o=rT (I J (dX S b))/\∃d l i,sK c w w' B (aI S b) d l i:=by
 have z2:=h.cl 2 _ rfl;have z3:=h.cl 3 _ rfl;have fr:=fun j=>h.q.free j;obtain⟨H,U⟩:∃q,(S.rn==5)=q:=⟨_,rfl⟩
 obtain⟨K,D⟩:∃q,((b:Int)==S.lv)=q:=⟨_,rfl⟩
 have x:Hid (dX S b=if H=true then(if K=true then 3 else 0)else cm S.f S.lf S.cr S.ac b):=by show _=_;rw[<- U,<- D];unfold dX;simp
 have C:Hid (aI S b=if H=true then(if K=true then S else{S with rn:=1,lv:=b})else if cm S.f S.lf S.cr S.ac b=0\/cm S.f S.lf S.cr S.ac b=1 then cB S b else S):=by show _=_;rw[<- U,<- D];unfold aI;simp
 have A:=hI h;cases H;case true=>
  have HP:=hI ((h.put (S':={S with rn:=1}) 2 (I J 1) rfl).put (S':={S with rn:=1,lv:=b}) 3 (I J (b:Int)) rfl);clear h hS G;cases K;all_goals
   go_enter func193,ntmps193;go_wp2_with fail;go_ret;rw[x.o,C.o];exact⟨rfl,a,n,k,by first|exact HP.o|exact A.o⟩
 have R:=hI (Ew h hS.l1 b t);have O:Hid (∀W,sK c w W B S a n k->ce 232 #[pT (some ⟨c.P,c.o,none⟩),I J (b:Int)] W fun o w'=>(∃v,o=rT v)/\sK c w w' B (bG S b) a n k):=fun W p=>(Fe p.now G b t).mono fun o w' r=>⟨r.1,p.at_ r.2⟩
 have Q:Hid (∀W,sK c w W B (bG S b) a n k->ce 233 #[pT (some ⟨c.P,c.o,none⟩),I J (b:Int)] W fun o w'=>(∃v,o=rT v)/\∃d l i,sK c w w' B (aQ (ew (dZ (bG S b) b) b) b) d l i):=fun W p=>(E5 p.now (C9 hS (mh S b)) b t).mono fun o w' r=>⟨r.1,by obtain⟨d,l,i,E⟩:=r.2;exact⟨d,l,i,p.at_ E⟩⟩
 have s:=xJ hS t
 have N:Hid (cm S.f S.lf S.cr S.ac b=0\/cm S.f S.lf S.cr S.ac b=1->∀W d l i,sK c w W B (aQ (ew (dZ (bG S b) b) b) b) d l i->ce 234 #[pT (some ⟨c.P,c.o,none⟩)] W fun o w'=>(∃v,o=rT v)/\∃d l i,sK c w w' B (cB S b) d l i):=fun hv W d l i p=>by
  refine(FE p.now ⟨by rw[s.1];exact hS.f1,fun T=>?_⟩ s.2.2 (by rw[s.2.1];exact⟨hS.l1,hS.l2⟩)).mono fun o w' r=>⟨r.1,by obtain⟨d,l,i,E⟩:=r.2;exact⟨d,l,i,p.at_ E⟩⟩
  rw[s.2.1]at T;rw[s.1];have:=hS.f2;rcases Int.lt_or_eq_of_le this with h1|h1
  .omega
  .rw[h1,T]at hv;rcases(show b=0\/b=1 by omega)with rfl|rfl<;>simp[cm]at hv
 clear h s hS G z3 fr D;generalize cB S b=T3 at*;generalize aQ (ew (dZ (bG S b) b) b) b=T2 at*;generalize bG S b=T1 at*;generalize cm S.f S.lf S.cr S.ac b=v at*;generalize dX S b=vc at*;generalize aI S b=T4 at*;go_enter func193,ntmps193;go_wp2_with fail;refine R.o.mono ?_;rintro o w1 ⟨rfl,a0⟩;have u:=hI (A.o.below a0);clear a0 R z2 A;go_wp2_with fail;refine(CC _ v).mono ?_;rintro o w2 ⟨⟨g,rfl,hg⟩,rfl⟩;have y:=hI hg;clear hg;cases g
 .have hn:¬(v=0\/v=1):=fun e=>by have:=y.o.2 e;cases this
  go_wp2_with fail;go_ret;rw[x.o,C.o];exact⟨rfl,a,n,k,by rw[QV (by decide),QV hn];exact u.o⟩
 .go_wp2_with fail;refine(O.o _ u.o).mono ?_;rintro o w3 ⟨⟨v1,rfl⟩,X⟩;have L:=hI X;clear X u O;go_wp2_with fail;refine(Q.o _ L.o).mono ?_;rintro o w4 ⟨⟨v2,rfl⟩,a4,n4,k4,Y⟩;have M:=hI Y;clear Y L Q;go_wp2_with fail;refine(N.o (y.o.1 (by trivial)) _ _ _ _ M.o).mono ?_;rintro o w5 ⟨⟨v3,rfl⟩,a5,n5,k5,Z⟩;have H5:=hI Z;clear Z M N;go_wp2_with fail;go_ret;rw[x.o,C.o];exact⟨rfl,a5,n5,k5,by rw[QV (by decide),QW (y.o.1 (by trivial))];exact H5.o⟩
def dlN(r:Bool)(d:Nat):Nat:=if r then 0 else min d 8
abbrev z5:List Value:=[bO false,I .u32 0,bO false,I J 0,sL none 0 0]
def kC{w:World}{B B' E sz n:Nat}{v:Value}{xs:List Value}(h:w.ownsRow B E sz v n xs)(hB:B'<=B):w.ownsRow B' E sz v n xs:=⟨h.1,h.2.imp id fun⟨g,c,cur,h1,h2,h3⟩=>⟨g,c,cur,h1,nT hB h2,h3⟩⟩
end Go.Proofs.YtbbffcolnddcdaaGreatDoor
