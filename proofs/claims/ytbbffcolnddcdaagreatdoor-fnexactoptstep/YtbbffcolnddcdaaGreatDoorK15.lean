import Derived.Laws.IdiomStrings
import Derived.Lib.OthersKept
import Derived.Test.YtbbffcolnddcdaaGreatDoorK14
import Derived.Deep.RegionWith
import Derived.Laws.BitsAllLaws
import Derived.Below
namespace Go.Proofs.YtbbffcolnddcdaaGreatDoor
open Go.Proofs.Tryz
set_option linter.all false
open Option renaming none->nn,some->sQ
open Go.RowKit
open Go.Value renaming int->I,slice->sL,bool->bO,pointer->pT,agg->aG
open Go.IntKind renaming i64->J
open Go.Ending renaming returned->rT
open Go.Proofs.Tryz renaming prog->Tp
section
variable{w:World}{B:Nat}{l:List Nat}{ops:Array Oper}{rest:List Oper}{o:Oper}{a:Act}{Q:Exit->Act->World->Prop}{v:Value}
def wv(l:List Nat):List Value:=l.map (fun x:Nat=>Value.int .u64 (x:Int))
def Dj(l:List Nat)(j:Nat)(h:j<l.length):(wv l)[j]?=sQ (Value.int .u64 (l[j]:Int)):=by simp[wv,h]
def ab(w:World)(B:Nat)(v:Value)(l:List Nat):Prop:=w.ownsRow B 108 1 v l.length (wv l)
def Bg(w0 wr:World)(n:o.guard=nn)(s x:Operand)
  (ho:o.op= .call {callee:=.builtin .append,args:=#[s,x],argTypes:=#[38,38]})
  (B:Nat) (v:Value) (l:List Nat) (c:Nat) (d:Int) (i:d=(c:Int)) (hs:a.eval s=v) (e:ab wr B v l)
  (t:a.eval x=sL (be wr.heap.size) 1 1) (E:l.length<=1000000) (hB:B<=wr.heap.size) (g:Below B w0 wr)
  (h:∀b w',ab w' B b (l++[c])->Below B w0 w'->B<=w'.heap.size->wpList Tp ops Q rest (a.put o.dst b) w') :
  wpList Tp ops Q (o::rest) a (wr.alloc (.cells #[I .u64 d] 108)):=by
 subst i;obtain⟨D,hi,y,A,C⟩:=QH info108;refine QM _ n s x 38 ho B 108 D (I .u64 0) 1 8 underlying38 hi y A C rfl (by decide) v l.length (wv l) hs (Qx e _) ⟨wr.heap.size,0,nn⟩ 1 1 [I .u64 (c:Int)] t rfl ?_ ?_ ?_ ?_ ?_ ?_
 .intro j u hj;match j,hj with
  |0,hj=>simp at hj;subst hj;simp[Addr.add]
 .intro u hu;simp at hu;subst hu;rfl
 .unfold maxLen;omega
 .omega
 .simp;omega
 .intro b w' ho' hg _;have r:∀k,v.ownBlock=sQ k->B<=k:=fun k p=>(Qm e k p).1;refine h b w' ?_ ((g.alloc hB _).grown hg (by simp;omega) r) (nT (by simp;omega) hg.size);have f:wv (l++[c])=wv l++[I .u64 (c:Int)]:=by simp[wv]
  unfold ab;rw[f,QX];exact ho'
def ab.kind(h:ab w B v l):∀g,v.ownBlock=sQ g->∃c d,w.heap[g]?=sQ (.cells c 108 d):=by
 intro g b;obtain⟨_,⟨rfl,_⟩|⟨f,cap,cur,rfl,_,e,_⟩⟩:=h
 .simp[Value.ownBlock]at b
 .simp[Value.ownBlock]at b;subst b;exact⟨cur,_,e⟩
def oG(w0 wr:World)(n:o.guard=nn)(s x:Operand)
  (ho:o.op= .call {callee:=.builtin .append,args:=#[s,x],argTypes:=#[38,38]})
  (B:Nat) (v:Value) (l:List Nat) (c:Nat) (e:Int) (i:e=(c:Int)) (hs:a.eval s=v) (d:ab wr B v l)
  (t:a.eval x=sL (be wr.heap.size) 1 1) (E:l.length<=1000000) (hB:B<=wr.heap.size) (f:Below B w0 wr)
  (h:∀b w',ab w' B b (l++[c])->Below B w0 w'->Lib.OthersKept 108 nn wr w'->B<=w'.heap.size->wpList Tp ops Q rest (a.put o.dst b) w') :
  wpList Tp ops Q (o::rest) a (wr.alloc (.cells #[I .u64 e] 108)):=by
 subst i;obtain⟨D,hi,y,A,C⟩:=QH info108;refine QM _ n s x 38 ho B 108 D (I .u64 0) 1 8 underlying38 hi y A C rfl (by decide) v l.length (wv l) hs (Qx d _) ⟨wr.heap.size,0,nn⟩ 1 1 [I .u64 (c:Int)] t rfl ?_ ?_ ?_ ?_ ?_ ?_
 .intro j u hj;match j,hj with
  |0,hj=>simp at hj;subst hj;simp[Addr.add]
 .intro u hu;simp at hu;subst hu;rfl
 .unfold maxLen;omega
 .omega
 .simp;omega
 .intro b w' ho' hg _;have r:∀k,v.ownBlock=sQ k->B<=k:=fun k p=>(Qm d k p).1;refine h b w' ?_ ((f.alloc hB _).grown hg (by simp;omega) r) (((QG 108 nn wr).alloc _).grown hg ?_) (nT (by simp;omega) hg.size)
  .have e1:wv (l++[c])=wv l++[I .u64 (c:Int)]:=by simp[wv]
   unfold ab;rw[e1,QX];exact ho'
  .intro g hg';exact ab.kind (B:=B) (l:=l) (Qx d _) g hg'
def zA(w:World)(B:Nat)(hB:B<=w.heap.size):ab (w.alloc (.cells #[] 108)) B (sL (be w.heap.size) 0 0) []:=
 World.ownsRow_made w #[] 0 hB (by decide) rfl
def ab.open(h:ab w B v l)(f:l≠[]):∃g cap,v=sL (be g) l.length cap/\B<=g/\g<w.heap.size/\l.length<=cap/\cap<=maxLen/\Er w g l.length (fun t=>l.getD t 0):=by
 have b:=h;obtain⟨_,h1|⟨g,cap,cur,rfl,d,j,e,i,k,n⟩⟩:=h
 .exact Qj (List.length_eq_zero_iff.1 h1.2) f
 .refine⟨g,cap,rfl,d,(Qm b g rfl).2,e,i,fun t c=>?_,fun t c=>?_⟩
  .rw[QJ b t om,Dj l t c];simp[List.getD,c]
  .exact QF b t
def ab.stored{g cap:Nat}(h:ab w B (sL (be g) l.length cap) l)(j x:Nat):ab (w.setCell ⟨g,j,nn⟩ (I .u64 (x:Int))) B (sL (be g) l.length cap) (l.set j x):=by
 have:=(World.ownsRow.stored h j (I .u64 (x:Int))).1;unfold ab;have e:wv (l.set j x)=(wv l).set j (I .u64 (x:Int)):=by simp[wv,List.map_set]
 rw[e,qE];exact this
end
set_option maxRecDepth 20000
set_option maxHeartbeats 16000000
section
variable{w:World}{B i:Nat}{l:List Nat}{v:Value}
def fb(s:ByteArray)(i:Nat):Nat:=if h:i<s.size then(if s[i].toNat=49 then 1 else 0)else 0
def PV(s:ByteArray)(q:Nat):Nat->Nat
 |0=>0
 |j+1=>2*PV s q j+fb s (64*q+j)
def DI(s:ByteArray)(i:Nat):fb s i<2:=by
 unfold fb;split
 .split<;>decide
 .decide
def DO(s:ByteArray)(q j:Nat):PV s q j<2 ^ j:=by
 induction j with
 |zero=>simp[PV]
 |succ j ih=>
  have:=DI s (64*q+j);simp only[PV,qC];omega
def pkL(s:ByteArray)(m:Nat):List Nat:=(List.range m).map fun q=>PV s q 64
def zy(s:ByteArray)(m:Nat):pkL s (m+1)=pkL s m++[PV s m 64]:=by simp[pkL,List.range_succ]
def pn(s:ByteArray)(m:Nat):(pkL s m).length=m:=by simp[pkL]
def ab.words{a:Option Addr}{n cap:Nat}(h:ab w B (sL a n cap) l)(f:n=l.length)(hs:∀x∈l,x<18446744073709551616)(c:n<=cap):ah w a n cap l:=by
 refine⟨f,c,hs,fun d=>?_⟩;obtain⟨g,p,e,_,_,_,_,k⟩:=h.open d;cases e;refine⟨g,0,rfl,fun j b=>?_⟩;rw[qg,k.cell j b,eK l j b]
def xY{ops:Array Oper}{rest:List Oper}{o:Oper}{a:Act}{Q:Exit->Act->World->Prop}(w0 wr:World)(hgd:o.guard=nn)(s x:Operand)
  (ho:o.op= .call {callee:=.builtin .append,args:=#[s,x],argTypes:=#[38,38]})
  (B:Nat) (v:Value) (l:List Nat) (c:Nat) (ci:Int) (hci:ci=(c:Int)) (hs:a.eval s=v) (hown:ab wr B v l)
  (hx:a.eval x=sL (be wr.heap.size) 1 1) (hlen:l.length<=1000000) (hB:B<=wr.heap.size) (hbel:Below B w0 wr)
  (h:∀v' w',ab w' B v' (l++[c])->Below B w0 w'->B<=w'.heap.size->wpList Tp ops Q rest (a.put o.dst v') w') :
  wpList Tp ops Q (o::rest) a (wr.alloc (.cells #[I .u64 ci] 108)):=
 Bg w0 wr hgd s x ho B v l c ci hci hs hown hx hlen hB hbel h
def ab.otherBlock{w':World}(h:ab w B v l)(d:∀g,v.ownBlock=sQ g->w'.heap[g]?=w.heap[g]?):ab w' B v l:=by
 obtain⟨h1,a|⟨g,cap,cur,rfl,b,c,rest⟩⟩:=h
 .exact⟨h1,.inl a⟩
 .exact⟨h1,.inr ⟨g,cap,cur,rfl,b,(d g (by simp[Value.ownBlock])).trans c,rest⟩⟩
def ab.setCellO(h:ab w B v l)(b j:Nat)(x:Value)(hb:b<B):ab (w.setCell ⟨b,j,nn⟩ x) B v l:=
 h.otherBlock fun g hg=>Ql w ⟨b,j,nn⟩ g x (by have:=(Qm h g hg).1;show g≠b;omega)
def Di(s:ByteArray)(q j:Nat)(h:j<64):PV s q j<9223372036854775808:=
 nL (DO s q j) (qq (by decide) (by omega:j<=63))
def Fo{s:ByteArray}(h:i<s.size)(a:(s[i].toNat:Int)=49):fb s i=1:=by
 unfold fb;rw[dif_pos h,QW om]
def CO{s:ByteArray}(h:i<s.size)(a:¬(s[i].toNat:Int)=49):fb s i=0:=by
 unfold fb;rw[dif_pos h,QV om]
def AL{s:ByteArray}(h:¬i<s.size):fb s i=0:=by
 unfold fb;rw[dif_neg h]
def Eu{wr:World}(a:Below (w.heap.size+1) (w.alloc (pkC 0 nn 0 0 56)) wr):wr.cell? ⟨w.heap.size,0,nn⟩=sQ (I J 0)/\wr.cell? ⟨w.heap.size,1,nn⟩=sQ (sL nn 0 0)/\wr.frozen? ⟨w.heap.size,0,nn⟩=false/\wr.frozen? ⟨w.heap.size,1,nn⟩=false/\Bl w wr:=by
 refine⟨(a.cell (p:=⟨w.heap.size,0,nn⟩) pQ).trans pQ,(a.cell (p:=⟨w.heap.size,1,nn⟩) pQ).trans pQ,(a.frozen (p:=⟨w.heap.size,0,nn⟩) pQ).trans pQ,(a.frozen (p:=⟨w.heap.size,1,nn⟩) pQ).trans pQ,?_⟩;exact Zw.trans (a.mono om)
def kv(s:ByteArray)(w:World)(hs:okT s 4000=true)(T:s.size<=4000):ce 20 #[.string s] w fun o w'=>∃a cap,o=rT (pkV (s.size:Int) a ((s.size+63) / 64) cap)/\ab w' (w.heap.size+1) (sL a ((s.size+63) / 64) cap) (pkL s ((s.size+63) / 64))/\Bl w w':=by
 have u:Hid (okT s 4000=true):=hs;clear hs;go_enter func20,ntmps20;go_wp2_with(go_at_call 64;refine(fG _ _ _ (by unfold maxLen;omega)).mono ?_;rw[u.o];rintro o U ⟨rfl,rfl⟩);have c:ab ((w.alloc (pkC 0 nn 0 0 56)).alloc (.cells #[] 108)) (w.heap.size+1) (sL (be (w.heap.size+1)) 0 0) (pkL s 0):=by
  have:=zA (w.alloc (pkC 0 nn 0 0 56)) (w.heap.size+1) pQ;simpa[pkL]using this
 have r:Below (w.heap.size+1) (w.alloc (pkC 0 nn 0 0 56)) ((w.alloc (pkC 0 nn 0 0 56)).alloc (.cells #[] 108)):=(bW _ _).alloc pQ _;go_loopw [3,4] (fun v i wr=>∃(k:Nat)(a:Option Addr)(b:Nat),v=sL a k b/\k<=(s.size+63) / 64/\i=I J (k:Int)/\ab wr (w.heap.size+1) v (pkL s k)/\Below (w.heap.size+1) (w.alloc (pkC 0 nn 0 0 56)) wr/\w.heap.size+1<=wr.heap.size) (fun _ i _=>(s.size+63) / 64-(intOf i).toNat);case atStart=>exact⟨0,_,_,rfl,nZ _,rfl,c,r,pQ⟩
 case round=>
  clear c r;obtain⟨k,a,b,rfl,R,rfl,c,n,G⟩:=hrel;have d:Hid (Below (w.heap.size+1) (w.alloc (pkC 0 nn 0 0 56)) wr/\ab wr (w.heap.size+1) (sL a k b) (pkL s k)):=⟨n,c⟩
  clear n c;by_cases S:64*k<s.size
  .have hd:decide (64*(k:Int)<(s.size:Int))=true:=by simp;omega
   go_wp2;go_loopw [5,6] (fun v i V=>∃j:Nat,j<=64/\i=I J (j:Int)/\v=I .u64 (PV s k j:Int)/\V=wr) (fun _ i _=>64-(intOf i).toNat);case atStart=>exact⟨0,by decide,rfl,rfl,rfl⟩
   case round=>
    obtain⟨j,Q,rfl,rfl,rfl⟩:=hrel;by_cases C:j<64
    .have hx:=Di s k j C;have f:Hid (PV s k (j+1)=2*PV s k j+fb s (64*k+j)):=rfl;generalize PV s k j=x at*;by_cases hi:64*k+j<s.size
     .by_cases h1:(s[64*k+j].toNat:Int)=49
      .have HF:Hid (fb s (64*k+j)=1):=Fo hi h1;go_wp2;go_roundw;case rel=>exact⟨j+1,om,by go_num,by rw[f.o,HF.o];go_num,trivial⟩
       case measure=>simp[intOf];omega
      .have HF:Hid (fb s (64*k+j)=0):=CO hi h1;have P:((s[64*k+j].toNat:Int)==49)=false:=by simpa using h1
       clear h1;go_wp2;go_roundw;case rel=>exact⟨j+1,om,by go_num,by rw[f.o,HF.o];go_num,trivial⟩
       case measure=>simp[intOf];omega
     .have HF:Hid (fb s (64*k+j)=0):=AL hi;go_wp2;go_roundw;case rel=>exact⟨j+1,om,by go_num,by rw[f.o,HF.o];go_num,trivial⟩
      case measure=>simp[intOf];omega
    .have hj3:j=64:=om;subst hj3;have g:Hid (pkL s (k+1)=pkL s k++[PV s k 64]/\(pkL s k).length=k):=⟨zy s k,pn s k⟩
     generalize PV s k 64=x at*;go_wp2_with(at_builtin;refine xY (w.alloc (pkC 0 nn 0 0 56)) wr rfl (.tmp 43) (.tmp 45) rfl (w.heap.size+1) _ (pkL s k) x _ rfl rfl d.o.2 rfl (by have:=g.o.2;omega) G d.o.1 ?_);intro H K D A E;have t:ab K (w.heap.size+1) H (pkL s (k+1)):=by rw[g.o.1];exact D
     obtain⟨O,L,h,-,-,-,-,-⟩:=t.open (by intro e;have:=pn s (k+1);rw[e]at this;simp at this);rw[pn]at h;subst h;go_wp2;go_roundw;case rel=>exact⟨k+1,_,_,rfl,om,by go_num,t,A,E⟩
     case measure=>simp[intOf];omega
  .have hkk:k=(s.size+63) / 64:=om;subst hkk;obtain⟨y,c1,M,N,hB⟩:=Eu d.o.1;go_wp2;refine Qp (v:=pkV (s.size:Int) a ((s.size+63) / 64) b) (by simp[results,results20,go_sem,y,c1]) rfl ?_;have H2:=(d.o.2.setCellO w.heap.size 0 (I J (s.size:Int)) om).setCellO w.heap.size 1 (sL a ((s.size+63) / 64) b) om;exact⟨a,b,rfl,H2,(hB.setCell (p:=⟨_,0,nn⟩) pQ _).setCell (p:=⟨_,1,nn⟩) pQ _⟩
end
def C8(w:World)(b g cap m n q r x:Nat)(L:Nat)(f:L<2)(k:n<=4000)
  (a:w.cell? ⟨b,0,nn⟩=sQ (I J (n:Int))) (c1:w.cell? ⟨b,1,nn⟩=sQ (sL (be g) m cap)) (c2:w.cell? ⟨b,2,nn⟩=sQ (bO false))
  (e:w.frozen? ⟨b,0,nn⟩=false) (j:¬b=g)
  (c:(n:Int).tdiv 64=(q:Int)) (d:(n:Int).tmod 64=(r:Int)) (s:((r:Int)==0)=false) (t:r<64) (l:q<m) (p:q<=1000) (h:w.cell? ⟨g,q,nn⟩=sQ (I .u64 (x:Int))) (i:w.frozen? ⟨g,q,nn⟩=false) :
  ce 271 #[ap b,I J (L:Int)] w fun o w'=>o=rT (.tuple #[])/\w'=((w.setCell ⟨g,q,nn⟩ (I .u64 (bits BinOp.or IntKind.u64 (x:Int) (IntKind.u64.wrap ((L:Int)*2 ^ (63-r)))))).setCell ⟨b,0,nn⟩ (I J ((n:Int)+1))).drew:=by
 go_enter func271,ntmps271;go_wp2;go_region;go_wp2;refine bN ?_;exact⟨rfl,rfl⟩
def Ez(x L r:Nat)(f:L<2)(g:r<64)(d:x<18446744073709551616)(hd:x%2 ^ (64-r)=0):bits BinOp.or IntKind.u64 (x:Int) (IntKind.u64.wrap ((L:Int)*2 ^ (63-r)))=((x+L*2 ^ (63-r):Nat):Int):=by
 have a:L*2 ^ (63-r)<2 ^ (64-r):=by
  have e:64-r=(63-r)+1:=om;rw[e,qC];have:0<2 ^ (63-r):=qR pQ;have:L*2 ^ (63-r)<=1*2 ^ (63-r):=qx _ om;omega
 have b:(2:Nat) ^ (64-r)<=2 ^ 64:=qq (by decide) om;have hy:L*2 ^ (63-r)<18446744073709551616:=nL a b;rw[rq,zi om,u64_or_nat _ _ d hy];congr 1;obtain⟨k,c⟩:∃k,x=2 ^ (64-r)*k:=Nat.dvd_of_mod_eq_zero hd;subst c;rw[qY a]
def C7(w:World)(b n q:Nat)(v:Value)(l:List Nat)(L:Nat)(N:L<2)(U:n<=4000)(u:l.length=q)(O:b<w.heap.size)(own:ab w (b+1) v l)
  (k:w.cell? ⟨b,0,nn⟩=sQ (I J (n:Int))) (c1:w.cell? ⟨b,1,nn⟩=sQ v) (c2:w.cell? ⟨b,2,nn⟩=sQ (bO false))
  (r:w.frozen? ⟨b,0,nn⟩=false) (s:w.frozen? ⟨b,1,nn⟩=false)
  (G:(n:Int).tdiv 64=(q:Int)) (H:(n:Int).tmod 64=0) (W:q<=1000) :
  ce 271 #[ap b,I J (L:Int)] w fun o w'=>∃a g d,ab a (b+1) (sL (be g) (q+1) d) (l++[0])/\Below (b+1) w a/\Lib.OthersKept 108 nn w a/\o=rT (.tuple #[])/\w'=(((a.setCell ⟨b,1,nn⟩ (sL (be g) (q+1) d)).setCell ⟨g,q,nn⟩ (I .u64 (bits BinOp.or IntKind.u64 0 ((L:Int)*9223372036854775808)))).setCell ⟨b,0,nn⟩ (I J ((n:Int)+1))).drew:=by
 have y:Hid (ab w (b+1) v l):=own;have h:Hid (l.length=q):=u;clear own u;go_enter func271,ntmps271;go_wp2_with(at_builtin;refine oG w w rfl (.tmp 14) (.tmp 15) rfl (b+1) _ l 0 _ rfl rfl y.o rfl (by have:=h.o;omega) om (bW _ _) ?_);intro Y a j c t X;obtain⟨g,d,e,R,T,B,A,f⟩:=j.open pQ;have x:(l++[0]).length=q+1:=by simp[h.o]
 rw[x]at e B f;subst e;have P:a.cell? ⟨g,q,nn⟩=sQ (I .u64 0):=by
  rw[f.cell q om];have:=h.o;subst this;simp[List.getD]
 have Q:=f.free q om;have C:=(c.cell (p:=⟨b,0,nn⟩) pQ).trans k;have E:=(c.cell (p:=⟨b,2,nn⟩) pQ).trans c2;have D:=(c.cell (p:=⟨b,1,nn⟩) pQ).trans c1;have K:=(c.frozen (p:=⟨b,0,nn⟩) pQ).trans r;have M:=(c.frozen (p:=⟨b,1,nn⟩) pQ).trans s;have i:Hid (ab a (b+1) (sL (be g) (q+1) d) (l++[0])/\Below (b+1) w a/\Lib.OthersKept 108 nn w a):=⟨j,c,t⟩
 have S:¬b=g:=om;clear j c t f x k c1 c2 r s A;go_wp2;go_region;go_wp2;refine bN ?_;exact⟨a,g,d,i.o.1,i.o.2.1,i.o.2.2,rfl,rfl⟩
section
variable{w:World}{b:Option Nat}
def wq(s:ByteArray)(n q:Nat):Nat:=PV s q (min 64 (n-64*q))*2 ^ (64-min 64 (n-64*q))
def wn(s:ByteArray)(n:Nat):List Nat:=(List.range ((n+63) / 64)).map (wq s n)
def jP(s:ByteArray)(n:Nat):(wn s n).length=(n+63) / 64:=by simp[wn]
def Dk(s:ByteArray)(n q:Nat):wq s n q<18446744073709551616:=by
 unfold wq;have h:=DO s q (min 64 (n-64*q));have a:min 64 (n-64*q)<=64:=Nat.min_le_left _ _;generalize min 64 (n-64*q)=r at*;have e:(2:Nat) ^ r*2 ^ (64-r)=18446744073709551616:=by rw[<- Nat.pow_add,show r+(64-r)=64 by omega]
 rw[<- e];exact Nat.mul_lt_mul_of_pos_right h (qR pQ)
def vl(s:ByteArray)(n q:Nat)(h:64*q+64<=n):wq s (n+1) q=wq s n q:=by
 unfold wq;rw[show min 64 (n+1-64*q)=64 by omega,show min 64 (n-64*q)=64 by omega]
def vk(s:ByteArray)(q r:Nat)(h:r<64):wq s (64*q+r+1) q=wq s (64*q+r) q+fb s (64*q+r)*2 ^ (63-r):=by
 unfold wq;rw[show min 64 (64*q+r+1-64*q)=r+1 by omega,show min 64 (64*q+r-64*q)=r by omega];show(2*PV s q r+fb s (64*q+r))*_=_;have e:64-r=(63-r)+1:=om;rw[show 64-(r+1)=63-r by omega,e,qC,Nat.add_mul];congr 1;rw[Qd 2 (PV s q r),Nat.mul_assoc,Qd 2]
def DV(s:ByteArray)(q r:Nat)(h:r<64):wq s (64*q+r) q%2 ^ (64-r)=0:=by
 unfold wq;rw[show min 64 (64*q+r-64*q)=r by omega];exact Nat.mul_mod_left _ _
def Bq(s:ByteArray)(q:Nat):wq s (64*q) q=0:=by
 unfold wq;rw[show min 64 (64*q-64*q)=0 by omega];simp[PV]
def rx(s:ByteArray)(n q:Nat)(h:q<(wn s n).length):(wn s n)[q]=wq s n q:=by simp[wn]
def DY(s:ByteArray)(q r:Nat)(h0:0<r)(h:r<64):wn s (64*q+r+1)=(wn s (64*q+r)).set q (wq s (64*q+r) q+fb s (64*q+r)*2 ^ (63-r)):=by
 apply List.ext_getElem
 .simp only[qE,jP];omega
 .intro i h1 h2;rw[rx,List.getElem_set];split
  .subst i;exact vk s q r h
  .rw[rx];rw[jP]at h1;exact vl s _ _ om
def DX(s:ByteArray)(q:Nat):wn s (64*q+1)=(wn s (64*q)++[0]).set q (fb s (64*q)*2 ^ 63):=by
 apply List.ext_getElem
 .simp only[qE,QX,Q1,jP];omega
 .intro i h1 h2;have a:=jP s (64*q);rw[rx,List.getElem_set];split
  .subst i;have:=vk s q 0 (by decide);simp only[Nat.add_zero,Bq,qg]at this;exact this
  .rw[jP]at h1;rw[qI om,rx];exact vl s _ _ om
def FH(s:ByteArray)(q r:Nat)(h:s.size<=64*q+r)(d:Nat):PV s q (r+d)=PV s q r*2 ^ d:=by
 induction d with
 |zero=>simp
 |succ d ih=>
  show 2*PV s q (r+d)+fb s (64*q+(r+d))=_;rw[ih,AL om,qC,Nat.add_zero,Qd 2,Nat.mul_assoc]
def DZ(s:ByteArray):wn s s.size=pkL s ((s.size+63) / 64):=by
 unfold wn pkL;apply zg;intro q a;rw[List.mem_range]at a;unfold wq;by_cases h:64*q+64<=s.size
 .rw[show min 64 (s.size-64*q)=64 by omega];simp
 .have hm:min 64 (s.size-64*q)=s.size-64*q:=om;rw[hm];have:=FH s q (s.size-64*q) om (64-(s.size-64*q));rw[show s.size-64*q+(64-(s.size-64*q))=64 by omega]at this;exact this.symm
def EU(L:Nat)(a:L<2):bits BinOp.or IntKind.u64 0 ((L:Int)*9223372036854775808)=((L*2 ^ 63:Nat):Int):=by
 have:=u64_or_nat 0 (L*2 ^ 63) (by decide) om;rw[Nat.zero_or]at this;rw[<- this];congr 1
def oe{a:World}(h:Lib.OthersKept 108 b a w){g:Nat}(l:∃c d,w.heap[g]?=sQ (.cells c 108 d))(j:Nat)(x:Value):Lib.OthersKept 108 b a (w.setCell ⟨g,j,nn⟩ x):=by
 intro k o n i ho;have h1:=h k o n i ho;rw[Ql w ⟨g,j,nn⟩ k x (fun e=>?_)]
 .exact h1
 .obtain⟨c,d,hc⟩:=l;have f:k=g:=e;subst f;rw[h1]at hc;exact ho c d (qX hc)
def xz{w':World}(h:Lib.OthersKept 108 nn w w'):Lib.OthersKept 108 b w w':=fun k o hk _ ho=>h k o hk pQ ho
def Aq{a:World}{b g q n:Nat}(i:Lib.OthersKept 108 nn w a)(h:∃c d,a.heap[g]?=sQ (.cells c 108 d))(e:g≠b){X:Int}{v:Value}:Lib.OthersKept 108 (sQ b) w (((a.setCell ⟨b,1,nn⟩ v).setCell ⟨g,q,nn⟩ (I .u64 X)).setCell ⟨b,0,nn⟩ (I J ((n:Int)+1))).drew:=by
 refine((oe ((xz i).setCell ⟨b,1,nn⟩ rfl v) ?_ q _).setCell ⟨b,0,nn⟩ rfl _).drew;obtain⟨c,d,f⟩:=h;exact⟨c,d,(Ql a ⟨b,1,nn⟩ g v e).trans f⟩
end
section
variable{w:World}{B:Nat}{l:List Nat}{v:Value}
def gu(w:World)(B:Nat):ab w B (sL none 0 0) []:=⟨by simp[wv],.inl ⟨rfl,rfl⟩⟩
def ab.slice(h:ab w B v l):∃b a,v=sL b l.length a/\l.length<=a:=by
 obtain⟨_,⟨rfl,c⟩|⟨g,cap,cur,rfl,e,f,d,_⟩⟩:=h
 .exact⟨none,0,by rw[c],om⟩
 .exact⟨_,cap,rfl,d⟩
def ab.lower{B':Nat}(h:ab w B v l)(hB:B'<=B):ab w B' v l:=by
 obtain⟨h1,a|⟨g,cap,cur,rfl,b,rest⟩⟩:=h
 .exact⟨h1,.inl a⟩
 .exact⟨h1,.inr ⟨g,cap,cur,rfl,om,rest⟩⟩
def ab.cap{b:Option Addr}{n a:Nat}(h:ab w B (sL b n a) l)(g:n=l.length):n<=a:=by
 obtain⟨c,d,e,f⟩:=h.slice;cases e;omega
end
section
variable{w:World}{B:Nat}{v:Value}{l:List Nat}
def ab.alloc(h:ab w B v l)(o:Obj):ab (w.alloc o) B v l:=by
 unfold ab at h ⊢;exact Qx h o
def ab.below{w':World}(h:ab w B v l)(hb:Bl w w'):ab w' B v l:=
 h.otherBlock fun g hg=>hb.block g (Qm h g hg).2
end
section
variable{q n b:Nat}{x2 x3 x4:Value}
def mH{s t:ByteArray}:∀j,(∀i,i<j->fb s (64*q+i)=fb t (64*q+i))->PV s q j=PV t q j
 |0,_=>rfl
 |j+1,h=>by
  show 2*PV s q j+fb s (64*q+j)=2*PV t q j+fb t (64*q+j);rw[mH j (fun i hi=>h i om),h j om]
def yl{s t:ByteArray}(h:∀i,i<n->fb s i=fb t i):wn s n=wn t n:=by
 unfold wn;apply zg;intro q a;unfold wq;rw[mH _ (fun i hi=>h _ (by have:=Nat.min_le_right 64 (n-64*q);omega))]
def ka(l:List Nat)(i:Nat)(h:i<l.length)(c:∀x∈l,M.isL x):fb (ag l) i=l[i]-48:=by
 have hs:(ag l).size=l.length:=by simp[ag,ByteArray.size]
 have a:=c l[i] (ql h);unfold fb;rw[dif_pos om];have e:((ag l)[i]'om).toNat=l[i]:=by
  show(UInt8.toNat ((l.map UInt8.ofNat).toArray[i]'(by simp;omega)))=_;simp;rcases a with a|a<;>omega
 rw[e];rcases a with a|a<;>rw[a]<;>rfl
def wl(o:List Nat):List Nat:=wn (ag o) o.length
def lx(o:List Nat)(c:Nat)(ho:∀x∈o,M.isL x)(d:M.isL c):wn (ag (o++[c])) o.length=wl o:=by
 refine yl fun i hi=>?_;rw[ka (o++[c]) i (by simp;omega) (by intro x a;rw[qw]at a;rcases a with a|a;exact ho x a;simp at a;subst a;exact d),ka o i hi ho,qI hi]
def vT(o:List Nat)(c:Nat)(ho:∀x∈o,M.isL x)(d:M.isL c):fb (ag (o++[c])) o.length=c-48:=by
 rw[ka (o++[c]) o.length pQ (by intro x a;rw[qw]at a;rcases a with a|a;exact ho x a;simp at a;subst a;exact d)];simp
def D0(o:List Nat)(c:Nat)(ho:∀x∈o,M.isL x)(a:M.isL c)(d:o.length%64=0):wl (o++[c])=(wl o++[0]).set (o.length / 64) ((c-48)*2 ^ 63):=by
 have:=DX (ag (o++[c])) (o.length / 64);rw[show 64*(o.length / 64)=o.length by omega,lx o c ho a,vT o c ho a]at this;unfold wl at this ⊢;rw[QX];exact this
def D1(o:List Nat)(c:Nat)(ho:∀x∈o,M.isL x)(d:M.isL c)(h:¬o.length%64=0):wl (o++[c])=(wl o).set (o.length / 64) (wq (ag o) o.length (o.length / 64)+(c-48)*2 ^ (63-o.length%64)):=by
 have e:=lx o c ho d;have:=DY (ag (o++[c])) (o.length / 64) (o.length%64) om om;rw[show 64*(o.length / 64)+o.length%64=o.length by omega,e,vT o c ho d]at this;have g:wq (ag (o++[c])) o.length (o.length / 64)=wq (ag o) o.length (o.length / 64):=by
  unfold wq;rw[mH _ (fun i hi=>?_)];have f:64*(o.length / 64)+i<o.length:=by have:=Nat.min_le_right 64 (o.length-64*(o.length / 64));omega
  rw[ka (o++[c]) _ (by simp;omega) (by intro x a;rw[qw]at a;rcases a with a|a;exact ho x a;simp at a;subst a;exact d),ka o _ f ho,qI f]
 rw[g]at this;unfold wl at this ⊢;rw[QX];exact this
def cD(o:List Nat):(wl o).length=(o.length+63) / 64:=jP _ _
structure bwS(w0:World)(b:Nat)(o:List Nat)(st:Bool)(r:Nat × Nat)(W:World):Prop where
 row:∃v,W.heap[b]?=sQ (.cells #[I J (o.length:Int),v,bO st,I .i32 (r.1:Int),I J (r.2:Int)] 261)/\ab W (b+1) v (wl o)
 bel:Below b w0 W
def bw5{W:World}{a c:Value}(h:W.heap[b]?=sQ (.cells #[a,c,x2,x3,x4] 261)):(W.cell? ⟨b,0,nn⟩=sQ a/\W.cell? ⟨b,1,nn⟩=sQ c/\W.cell? ⟨b,2,nn⟩=sQ x2/\W.cell? ⟨b,3,nn⟩=sQ x3/\W.cell? ⟨b,4,nn⟩=sQ x4)/\(∀j,W.frozen? ⟨b,j,nn⟩=false)/\b<W.heap.size:=by
 refine⟨⟨?_,?_,?_,?_,?_⟩,fun j=>?_,?_⟩;iterate 5 simp[World.cell?,h]
 .simp[World.frozen?,h]
 .rw[qL]at h;exact h.1
def C0{w0 c:World}{g a:Nat}{v:Value}{l l':List Nat}{x:Nat}{X:Int}(e:X=(x:Int))(j:c.heap[b]?=sQ (.cells #[I J (n:Int),v,x2,x3,x4] 261))
  (ho:ab c (b+1) (sL (be g) l.length a) l) (i:¬b=g) (f:Below b w0 c) (h:b<=g) (k:l'=l.set q x) :
  (((c.setCell ⟨b,1,nn⟩ (sL (be g) l.length a)).setCell ⟨g,q,nn⟩ (I .u64 X)).setCell ⟨b,0,nn⟩ (I J ((n:Int)+1))).drew.heap[b]?=sQ (.cells #[I J ((n+1:Nat):Int),sL (be g) l.length a,x2,x3,x4] 261) /\
  ab (((c.setCell ⟨b,1,nn⟩ (sL (be g) l.length a)).setCell ⟨g,q,nn⟩ (I .u64 X)).setCell ⟨b,0,nn⟩ (I J ((n:Int)+1))).drew (b+1) (sL (be g) l.length a) l' /\
  Below b w0 (((c.setCell ⟨b,1,nn⟩ (sL (be g) l.length a)).setCell ⟨g,q,nn⟩ (I .u64 X)).setCell ⟨b,0,nn⟩ (I J ((n:Int)+1))).drew:=by
 subst e k;refine⟨?_,?_,?_⟩
 .show (((c.setCell ⟨b,1,nn⟩ _).setCell ⟨g,q,nn⟩ _).setCell ⟨b,0,nn⟩ _).heap[b]?=_;have h1:=QA c b 1 _ _ (sL (be g) l.length a) j;have d:=(Ql (c.setCell ⟨b,1,nn⟩ (sL (be g) l.length a)) ⟨g,q,nn⟩ b (I .u64 (x:Int)) (by show b≠g;exact i)).trans h1;rw[QA _ b 0 _ _ (I J ((n:Int)+1)) d];simp
 .have h3:=((ho.setCellO b 1 (sL (be g) l.length a) om).stored q x).setCellO b 0 (I J ((n:Int)+1)) om;exact h3.otherBlock fun _ _=>rfl
 .exact (((f.setCell (p:=⟨b,1,nn⟩) pQ _).setCell (p:=⟨g,q,nn⟩) (by simpa using h) _).setCell (p:=⟨b,0,nn⟩) pQ _).drew
end
def CB(w:World)(b:Nat)(g i j:Value)(a k c:Nat)(y:c<=49)(x:a<=49)(A:k<=100000)(h:w.heap[b]?=sQ (.cells #[g,i,j,I .i32 (a:Int),I J (k:Int)] 261)):ce 292 #[pT (sQ ⟨b,3,nn⟩),I .i32 (c:Int)] w fun o w'=>o=rT (.tuple #[])/\w'.heap[b]?=sQ (.cells #[g,i,j,I .i32 ((M.ij (a,k) c).1:Int),I J ((M.ij (a,k) c).2:Int)] 261)/\(∀q,q≠b->w'.heap[q]?=w.heap[q]?)/\Below b w w':=by
 obtain⟨⟨n,c1,c2,c3,c4⟩,f,B⟩:=bw5 h;have u:=f 3;have v:=f 4;have l:Hid (w.heap[b]?=sQ (.cells #[g,i,j,I .i32 (a:Int),I J (k:Int)] 261)):=h;clear h n c1 c2 f;by_cases e:c=a
 .subst e;have t:((c:Int) !=(c:Int))=false:=by simp
  go_enter func292,ntmps292;go_wp2;go_end0;refine⟨rfl,?_,fun q d=>Ql w ⟨b,4,nn⟩ q _ d,(bW _ _).setCell (p:=⟨b,4,nn⟩) pQ _⟩;rw[QA _ b 4 _ _ _ l.o,M.iP];simp
 .have t:((c:Int) !=(a:Int))=true:=by simp;omega
  go_enter func292,ntmps292;go_wp2;go_end0;have h1:=QA w b 3 _ _ (Value.int IntKind.i32 (c:Int)) l.o;have r:=QA _ b 4 _ _ (Value.int IntKind.i64 0) h1;have s:=QA _ b 4 _ _ (Value.int IntKind.i64 1) r;refine⟨rfl,?_,fun q d=>?_,?_⟩
  .rw[s,M.fH a k c e];simp
  .exact ((Ql _ ⟨b,4,nn⟩ q _ d).trans (Ql _ ⟨b,4,nn⟩ q _ d)).trans (Ql w ⟨b,3,nn⟩ q _ d)
  .exact (((bW b w).setCell (p:=⟨b,3,nn⟩) pQ _).setCell (p:=⟨b,4,nn⟩) pQ _).setCell (p:=⟨b,4,nn⟩) pQ _
def CH(w:World)(b:Nat)(i j l:Value)(a k:Nat)(h:w.heap[b]?=sQ (.cells #[i,j,l,I .i32 (a:Int),I J (k:Int)] 261)):ce 293 #[pT (sQ ⟨b,3,nn⟩)] w fun o w'=>o=rT (bO (decide (k=5)))/\w'=w:=by
 obtain⟨⟨d,c1,c2,c3,c4⟩,f,g⟩:=bw5 h;clear h d c1 c2 c3 f g;have e:((k:Int)==5)=decide (k=5):=by
  by_cases c:k=5
  .simp[c]
  .have:¬(k:Int)=5:=om;simp[c,this]
 go_enter func293,ntmps293;go_wp2;go_ret;first|exact⟨rfl,rfl⟩|exact⟨by rw[e],rfl⟩
def mkL(k:Nat):Nat->List Nat->List Nat
 |0,l=>l
 |j+1,l=>(mkL k j l).set j (k+j)
def fP(k j:Nat)(l:List Nat):(mkL k j l).length=l.length:=by
 induction j with
 |zero=>rfl
 |succ j ih=>show((mkL k j l).set j (k+j)).length=_;rw[qE,ih]
def EV(k j:Nat)(l:List Nat)(i:Nat)(hi:i<j)(c:j<=l.length):(mkL k j l).getD i 0=k+i:=by
 induction j with
 |zero=>omega
 |succ j ih=>
  show((mkL k j l).set j (k+j)).getD i 0=_;have b:=fP k j l;by_cases e:i=j
  .subst e;have a:i<l.length:=om;simp[qj,b,a]
  .have:=ih om om;rw[qj]at this ⊢;rw[List.getElem?_set_ne om];exact this
def xX{w0 w:World}{B g:Nat}(h:Below B w0 w)(hg:B<=g)(j:Nat)(x:Value):Below B w0 (w.setCell ⟨g,j,nn⟩ x):=h.setCell (by exact hg) x
def mU(w:World)(B:Nat)(d:Option Addr)(n cap k:Nat)(l:List Nat)(h:ab w B (sL d n cap) l)(A:n=l.length)(N:k+n<=10000000000000000):ce 90 #[sL d n cap,I J (k:Int)] w fun e w'=>e=rT (I J ((k+n:Nat):Int))/\ab w' B (sL d n cap) (mkL k n l)/\Below B w w'/\∀b,(∀a,d=sQ a->a.block≠b)->w'.heap[b]?=w.heap[b]?:=by
 by_cases x:l=[]
 .subst x;have D:n=0:=A;subst D;have H:Hid (ab w B (sL d 0 cap) []):=h;clear h A;go_enter func90,ntmps90;go_wp2;go_loopw [1,5] (fun u i wr=>i=I J 0/\u=I J (k:Int)/\wr=w) (fun _ _ _=>0);case atStart=>exact⟨rfl,rfl,rfl⟩
  case round=>
   obtain⟨rfl,rfl,rfl⟩:=hrel;go_wp2;go_ret;exact⟨rfl,H.o,bW _ _,fun _ _=>rfl⟩
 .obtain⟨g,cap',hv,hgB,hgz,hcap,-,-⟩:=h.open x;cases hv;have H:Hid (ab w B (sL (be g) l.length cap) l):=h;clear h;go_enter func90,ntmps90;go_wp2;go_loopw [1,5] (fun u i wr=>∃j:Nat,j<=l.length/\i=I J (j:Int)/\u=I J ((k+j:Nat):Int)/\ab wr B (sL (be g) l.length cap) (mkL k j l)/\Below B w wr/\∀b,g≠b->wr.heap[b]?=w.heap[b]?) (fun _ i _=>l.length-(intOf i).toNat);case atStart=>exact⟨0,nZ _,rfl,rfl,H.o,bW _ _,fun _ _=>rfl⟩
  case round=>
   obtain⟨j,M,rfl,rfl,ho,p,s⟩:=hrel;by_cases y:j<l.length
   .have hrow:Er wr g l.length (fun t=>(mkL k j l).getD t 0):=by
     have f:=ho;rw[<- fP k j l]at f;obtain⟨G,E,e,-,-,-,-,C⟩:=f.open (by intro e;have:=fP k j l;rw[e]at this;simp at this;omega);cases e;rw[fP k j l]at C;exact C
    have K:=hrow.cell j y;have L:=hrow.free j y;have st:ab (wr.setCell ⟨g,j,nn⟩ (I .u64 ((k+j:Nat):Int))) B (sL (be g) l.length cap) (mkL k (j+1) l):=by
     have f:=ho;rw[<- fP k j l]at f;have:=f.stored j (k+j);rw[fP k j l]at this;exact this
    have v:=xX p hgB j (I .u64 ((k+j:Nat):Int));have c:Hid (ab (wr.setCell ⟨g,j,nn⟩ (I .u64 ((k+j:Nat):Int))) B (sL (be g) l.length cap) (mkL k (j+1) l)/\Below B w (wr.setCell ⟨g,j,nn⟩ (I .u64 ((k+j:Nat):Int)))/\∀b,g≠b->(wr.setCell ⟨g,j,nn⟩ (I .u64 ((k+j:Nat):Int))).heap[b]?=w.heap[b]?):=⟨st,v,fun b r=>(Ql wr ⟨g,j,nn⟩ b _ (fun e=>r e.symm)).trans (s b r)⟩
    have O:k+j<=10000000000000000:=om;have P:IntKind.u64.wrap ((k:Int)+(j:Int))=(k:Int)+(j:Int):=by simp[IntKind.wrap,IntKind.bits,IntKind.signed];omega
    clear st v hrow ho p s;go_wp2;go_roundw;case rel=>exact⟨j+1,om,by go_num,by go_num,c.o.1,c.o.2.1,c.o.2.2⟩
    case measure=>simp[intOf];omega
   .have:j=l.length:=om;subst this;have c:Hid (ab wr B (sL (be g) l.length cap) (mkL k l.length l)/\Below B w wr/\∀b,g≠b->wr.heap[b]?=w.heap[b]?):=⟨ho,p,s⟩
    clear ho p s;go_wp2;go_ret;exact⟨rfl,c.o.1,c.o.2.1,fun b r=>c.o.2.2 b (r _ rfl)⟩
def ng(w:World)(B:Nat)(f:Option Addr)(n cap k:Nat)(l:List Nat)(h:ab w B (sL f n cap) (mkL k n l))(b:n=l.length)(G:k+n<=10000000000000000):ce 93 #[sL f n cap,I J (k:Int)] w fun e w'=>e=rT (I J ((k+n:Nat):Int))/\∃q,w'=w.drewN q:=by
 by_cases r:l=[]
 .subst r;have A:n=0:=b;subst A;clear h b;go_enter func93,ntmps93;go_wp2;go_loopw [1,5] (fun d i wr=>i=I J 0/\d=I J (k:Int)/\wr=w) (fun _ _ _=>0);case atStart=>exact⟨rfl,rfl,rfl⟩
  case round=>
   obtain⟨rfl,rfl,rfl⟩:=hrel;go_wp2;go_ret;exact⟨rfl,0,rfl⟩
 .subst b;have x:mkL k l.length l≠[]:=by intro e;have:=fP k l.length l;rw[e]at this;simp at this;exact r (List.eq_nil_of_length_eq_zero this.symm)
  obtain⟨g,C,s,E,v,D,-,c⟩:=h.open x;rw[fP]at s c;cases s;have t:Hid (∀q j,j<l.length->(w.drewN q).cell? ⟨g,j,nn⟩=sQ (I .u64 ((k+j:Nat):Int))):=by
   intro q j a;have:=c.cell j a;rw[EV k l.length l j a (nR _)]at this;exact(QB (bW w.heap.size w) q).cell (by exact v) |>.trans this
  clear h c;go_enter func93,ntmps93;go_wp2;go_loopw [1,5] (fun d i wr=>∃j q:Nat,j<=l.length/\i=I J (j:Int)/\d=I J ((k+j:Nat):Int)/\wr=w.drewN q) (fun _ i _=>l.length-(intOf i).toNat);case atStart=>exact⟨0,0,nZ _,rfl,rfl,rfl⟩
  case round=>
   obtain⟨j,q,a,rfl,rfl,rfl⟩:=hrel;by_cases y:j<l.length
   .have hc:=t.o q j y;have H:k+j<=10000000000000000:=om;have K:IntKind.u64.wrap ((k:Int)+(j:Int))=(k:Int)+(j:Int):=by simp[IntKind.wrap,IntKind.bits,IntKind.signed];omega
    generalize p:w.drewN q=W at*;have u:Hid (W=w.drewN q):=p.symm;clear p;go_wp2;go_roundw;case rel=>exact⟨j+1,q,om,by go_num,by go_num,u.o⟩
    case measure=>simp[intOf];omega
   .have:j=l.length:=om;subst this;go_wp2;go_ret;exact⟨rfl,q,rfl⟩
def iC(w:World)(B:Nat)(N:Int)(c:Option Addr)(n cap k:Nat)(l:List Nat)(h:ab w B (sL c n cap) l)(d:n=l.length)(p:k+n<=10000000000000000)(hB:B<=w.heap.size):ce 36 #[pkV N c n cap,I J (k:Int)] w fun e w'=>e=rT (I J ((k+n:Nat):Int))/\ab w' B (sL c n cap) (mkL k n l)/\Below B w w'/\∀b,b<w.heap.size->(∀a,c=some a->a.block≠b)->w'.heap[b]?=w.heap[b]?:=by
 have H:Hid (∀x,ce 90 #[sL c n cap,I J (k:Int)] (w.alloc x) fun e w'=>e=rT (I J ((k+n:Nat):Int))/\ab w' B (sL c n cap) (mkL k n l)/\Below B (w.alloc x) w'/\∀b,(∀a,c=some a->a.block≠b)->w'.heap[b]?=(w.alloc x).heap[b]?):=fun x=>mU (w.alloc x) B c n cap k l (h.alloc x) d p;have f:Hid (B<=w.heap.size):=hB;clear h hB d;go_enter func36,ntmps36;go_wp2_with(go_at_call 90;refine(H.o _).mono ?_;rintro o s ⟨rfl,ho,g,r⟩);go_ret;exact⟨rfl,ho,((bW B w).alloc f.o _).trans g,fun b i j=>(r b j).trans (Below.heap_alloc w _ b i)⟩
def mf(w:World)(B:Nat)(N:Int)(a:Option Addr)(n cap k:Nat)(l:List Nat)(h:ab w B (sL a n cap) (mkL k n l))(b:n=l.length)(c:k+n<=10000000000000000):ce 39 #[pkV N a n cap,I J (k:Int)] w fun e w'=>e=rT (I J ((k+n:Nat):Int))/\Bl w w':=by
 have H:Hid (∀x,ce 93 #[sL a n cap,I J (k:Int)] (w.alloc x) fun e w'=>e=rT (I J ((k+n:Nat):Int))/\∃q,w'=(w.alloc x).drewN q):=fun x=>ng (w.alloc x) B a n cap k l (h.alloc x) b c;have d:¬((k:Int)+(n:Int))<0:=om;clear h b;go_enter func39,ntmps39;go_wp2_with(go_at_call 93;refine(H.o _).mono ?_;rintro o f ⟨rfl,q,rfl⟩);go_ret;exact⟨rfl,QB Zw q⟩
open Go renaming World->Wd
section
variable{ops:Array Oper}{rest:List Oper}{o:Oper}{a:Act}{Q:Exit->Act->Wd->Prop}
def ui(w:Wd)
  (f:o.guard=nn) (l c:Operand) (i:o.op=Op.makeSlice 38 l c) (C:Int) (n:Nat) (h:a.eval l=I J C) (d:a.eval c=I J C) (hC:C=(n:Int)) (s:n<=100000000)
  (b:∀w',ab w' w.heap.size (sL (be w.heap.size) n n) (List.replicate n 0)->w.grownBy w' nn->wpList Tp ops Q rest (a.put o.dst (sL (be w.heap.size) n n)) w') :
  wpList Tp ops Q (o::rest) a w:=by
 obtain⟨r,hi,j,k,p⟩:=QH info108;refine wpList_make_full w f l c 38 i w.heap.size 108 r (I .u64 0) 1 underlying38 hi j k .i64 .i64 C C n h d hC hC (by rw[p];omega) (by unfold maxLen;omega) (nR _) ?_;intro w' ho g;refine b w' ?_ g;have e:(madeCells (Value.int IntKind.u64 0).cells (n*1)).toList=List.replicate (n*1) (I .u64 0):=toList_madeCells_one _ _;rw[e,Nat.mul_one]at ho;unfold ab wv;rw[List.length_replicate,List.map_replicate];exact ho
def rD(w:Wd)(a:Option Addr)(n cap:Nat)(l:List Nat)(h:ah w a n cap l)(Y:n<=1048576):ce 78 #[sL a n cap] w fun e w'=>∃g,e=rT (sL (be g) n n)/\ab w' w.heap.size (sL (be g) n n) l/\Bl w w':=by
 have y:=h.len;have R:=h.cap;have j:=hI y
 have B:Hid (∀k(f:k<l.length),∃g off,a=sQ ⟨g,off,nn⟩/\g<w.heap.size/\w.cell? ⟨g,off+k,nn⟩=sQ (I .u64 (l[k]:Int))):=fun k f=>by
  obtain⟨g,off,e,p⟩:=h.cells (by intro e;subst e;simp at f);exact⟨g,off,e,Qn w _ (p k f),p k f⟩
 clear h y;go_enter func78,ntmps78;go_wp2_with(at_make;refine ui _ rfl (.tmp 6) (.tmp 6) rfl _ n rfl rfl rfl om ?_;intro Z A v);go_loopw [4] (fun i wr=>∃(k:Nat)(X:List Nat),k<=n/\i=I J k/\X.length=n/\(∀t,t<k->X[t]?=l[t]?)/\ab wr w.heap.size (sL (be w.heap.size) n n) X/\Bl w wr) (fun i _=>n-(intOf i).toNat);case atStart=>exact⟨0,List.replicate n 0,nZ _,rfl,List.length_replicate ..,(fun t s=>Qj s (nN t)),A,(bW _ _).grown v (nR _) (by intro k e;cases e)⟩
 case round=>
  clear A v;obtain⟨k,X,f,rfl,c,r,ho,d⟩:=hrel;by_cases W:k<n
  .obtain⟨g,off,rfl,hgz,p⟩:=B.o k (by have:=j.o;omega);have S:=(d.cell (by exact hgz)).trans p;have C:Hid (l[k]?=sQ (l[k]'(by have:=j.o;omega))):=Q4 _;have u:Er wr w.heap.size n (fun t=>X.getD t 0):=by
    obtain⟨P,O,G,-,-,-,-,H⟩:=ho.open (by intro e;subst e;simp at c;omega);cases G;exact H
   have T:=u.cell k om;have U:=u.free k om;generalize l[k]'(by have:=j.o;omega)=x at*;have E:Hid (∃b,b.length=n/\(∀t,t<k+1->b[t]?=l[t]?)/\ab (wr.setCell ⟨w.heap.size,k,nn⟩ (I .u64 (x:Int))) w.heap.size (sL (be w.heap.size) n n) b/\Bl w (wr.setCell ⟨w.heap.size,k,nn⟩ (I .u64 (x:Int)))):=by
    refine⟨X.set k x,by rw[qE,c],fun t s=>?_,?_,d.setCell (by exact nR _) _⟩
    .rw[List.getElem?_set];by_cases e:k=t
     .subst e;rw[QW rfl,QW om,C.o]
     .rw[QV e];exact r t om
    .have ho':=ho;rw[<- c]at ho' ⊢;exact ho'.stored k x
   have hne:¬w.heap.size=g:=om;clear u ho d r c;go_wp2;go_roundw;case rel=>
    obtain⟨b,K,L,M,N⟩:=E.o;exact⟨k+1,b,om,by go_num,K,L,M,N⟩
   case measure=>simp[intOf];omega
  .have e:X=l:=List.ext_getElem? fun t=>by
    have:=j.o;by_cases s:t<k
    .exact r t s
    .rw[List.getElem?_eq_none om,List.getElem?_eq_none om]
   rw[e]at ho;have D:=(show Hid _ from qB ho d)
   clear ho d r e c;go_wp2;go_ret;exact⟨_,rfl,D.o⟩
def kn(w:Wd)(a:Option Addr)(n cap:Nat)(m:Nat)(c:n<=9223372036854775807)(b:m<=1048576):ce 42 #[sL a n cap,I J m] w fun o w'=>o=rT (I J (if(n:Int)<=(m:Int)then(m:Int)-(n:Int)else -1))/\w=w':=by
 by_cases h:(n:Int)<=(m:Int)
 .rw[QW h];go_enter func42,ntmps42;go_wp2;go_ret;exact⟨rfl,rfl⟩
 .rw[QV h];go_enter func42,ntmps42;go_wp2;go_ret;exact⟨rfl,rfl⟩
def oY(w:Wd)(N:Int)(a:Option Addr)(n cap:Nat)(m:Nat)(c:n<=9223372036854775807)(b:m<=1048576):ce 13 #[pkV N a n cap,I J m] w fun o w'=>o=rT (I J (if(n:Int)<=(m:Int)then(m:Int)-(n:Int)else -1))/\w.alloc (pkC N a n cap 40)=w':=by
 by_cases h:(n:Int)<=(m:Int)
 .have HC:Hid (∀W,ce 42 #[sL a n cap,I J m] W fun o w'=>o=rT (I J ((m:Int)-(n:Int)))/\W=w'):=by
   intro W;have:=kn W a n cap m c b;rw[QW h]at this;exact this
  rw[QW h];go_enter func13,ntmps13;go_wp2_with(go_at_call 42;refine(HC.o _).mono ?_;rintro o d ⟨rfl,rfl⟩);go_ret;exact⟨rfl,rfl⟩
 .have HC:Hid (∀W,ce 42 #[sL a n cap,I J m] W fun o w'=>o=rT (I J (-1))/\W=w'):=by
   intro W;have:=kn W a n cap m c b;rw[QV h]at this;exact this
  rw[QV h];go_enter func13,ntmps13;go_wp2_with(go_at_call 42;refine(HC.o _).mono ?_;rintro o d ⟨rfl,rfl⟩);go_ret;exact⟨rfl,rfl⟩
def oT(w:Wd)(N:Int)(a:Option Addr)(n cap:Nat)(l:List Nat)(h:ah w a n cap l)(i:n<=1048576):ce 27 #[pkV N a n cap] w fun o w'=>∃g,o=rT (pkV N (be g) n n)/\ab w' w.heap.size (sL (be g) n n) l/\Bl w w':=by
 have c:=hI h;clear h;go_enter func27,ntmps27;go_wp2_with(go_at_call 78;refine(rD _ a n cap l (c.o.below ?_) i).mono ?_)
 .first|exact Zw.alloc pQ _|exact((Zw.alloc pQ _).alloc (by simp;omega) _)|exact(((Zw.alloc pQ _).alloc (by simp;omega) _).setCell pQ _)
 .rintro o w1 ⟨g,rfl,hby,hb⟩;obtain⟨f,k⟩:=vY hb;have hB:Bl w w1:=by
   refine Below.trans ?_ (hb.mono (by simp;try omega));first|exact Zw.alloc pQ _|exact((Zw.alloc pQ _).alloc (by simp;omega) _)|exact(((Zw.alloc pQ _).alloc (by simp;omega) _).setCell pQ _)
  have b:Hid (w.heap.size+1+1+1<=g):=by unfold Hid;simpa using(Qm hby g rfl).1
  have d:Hid (ab w1 w.heap.size (sL (be g) n n) l):=hby.lower (by simp;try omega);clear hb hby;go_wp2;refine Qp (v:=pkV N (be g) n n) (by simp[results,results27,go_sem,f]) rfl ?_;have r:=b.o;refine⟨g,rfl,?_,?_⟩
  .refine d.o.otherBlock fun j e=>?_;cases e;rw[Ql _ _ _ _ (by dsimp only;omega),Ql _ _ _ _ (by dsimp only;omega),Ql _ _ _ _ (by dsimp only;omega)]
  .exact ((hB.setCell (p:=⟨_,1,nn⟩) (by simp;omega) _).setCell (p:=⟨_,0,nn⟩) pQ _).setCell (p:=⟨_,1,nn⟩) pQ _
def Em(w:Wd)(N:Nat)(a:Option Addr)(n cap:Nat)(h:N<=4000)(m:Nat)(b:m<=1048576)(c:((N:Int)+63).tdiv 64=(m:Int))(hne:((n:Int) !=(m:Int))=true):ce 117 #[pkV (N:Int) a n cap] w fun o w'=>o=rT (bO false)/\w'=w.alloc (pkC (N:Int) a n cap 56):=by
 go_enter func117,ntmps117;go_wp2;go_ret;exact⟨rfl,rfl⟩
def BN(w:Wd)(N:Nat)(a:Option Addr)(n cap:Nat)(l:List Nat)(h:ah w a n cap l)(A:N<=4000)(C:n<=1000)(D:((N:Int)+63).tdiv 64=(n:Int))(t:N<=64*n):ce 117 #[pkV (N:Int) a n cap] w fun o w'=>o=rT (bO (xa l N n))/\Bl w w':=by
 have g:=hI h;clear h;go_enter func117,ntmps117;go_wp2;go_loopw [3] (fun i wr=>∃k:Nat,N<=k/\k<=64*n/\i=I J (k:Int)/\(∀j,N<=j->j<k->lev l j=0)/\Below (w.heap.size+1) (w.alloc (pkC (N:Int) a n cap 56)) wr) (fun i _=>64*n-(intOf i).toNat);case atStart=>exact⟨N,nR _,t,rfl,fun j h1 p=>Qj h1 om,bW _ _⟩
 case round=>
  obtain⟨k,r,B,rfl,s,d⟩:=hrel;obtain⟨y,c1,hB⟩:=nX d;have v:=hB.size;have b:=hI (qB s (qB d (qB hB r)));clear s d hB r;by_cases f:k<64*n
  .have c:lev l k=0\/lev l k=1:=by unfold lev;omega
   rcases c with c|c
   .have HL:=hI c;go_wp2_with(go_at_call 71;refine(dc (F:=71) _ (N:Int) a n cap l (g.o.below b.o.2.2.1) k f om).mono ?_;rintro o x ⟨rfl,rfl⟩;rw[HL.o]);go_roundw;case rel=>
     refine⟨k+1,by have:=b.o.2.2.2;omega,om,by go_num,?_,?_⟩
     .intro j h1 p;by_cases e:j=k
      .subst e;exact HL.o
      .exact b.o.1 j h1 om
     .exact b.o.2.1.alloc (by have:=b.o.2.1.size;simp at this;omega) _
    case measure=>simp[intOf];omega
   .have HL:=hI c;go_wp2_with(go_at_call 71;refine(dc (F:=71) _ (N:Int) a n cap l (g.o.below b.o.2.2.1) k f om).mono ?_;rintro o x ⟨rfl,rfl⟩;rw[HL.o]);go_ret;refine⟨ai ?_,b.o.2.2.1.alloc v _⟩;symm
    rw[Bool.eq_false_iff];intro u;have:=iv.1 u k b.o.2.2.2 f;rw[HL.o]at this;cases this
  .go_wp2;go_ret;refine⟨ai (iv.2 fun i h1 p=>b.o.1 i h1 om).symm,b.o.2.2.1⟩
def sH(w:Wd)(N:Int)(a:Option Addr)(n cap:Nat)(l:List Nat)(h:ah w a n cap l):ce 117 #[pkV N a n cap] w fun o w'=>o=rT (bO (okP N l))/\Bl w w':=by
 have b:Bl w (w.alloc (pkC N a n cap 56)):=Zw;have f:=h.len;by_cases h0:0<=N
 case neg=>
  refine(oO w N a n cap (.inl om)).mono ?_;rintro o w' ⟨rfl,rfl⟩;exact⟨ai (by simp[okP,h0]),b⟩
 by_cases h1:N<=4000
 case neg=>
  refine(oO w N a n cap (.inr ⟨h0,om⟩)).mono ?_;rintro o w' ⟨rfl,rfl⟩;exact⟨ai (by simp[okP,h1]),b⟩
 obtain⟨M,rfl⟩:∃M:Nat,N=(M:Int):=⟨N.toNat,om⟩
 have c:((M:Int)+63).tdiv 64=(((M+63) / 64:Nat):Int):=by rw[zc om];omega
 by_cases e:n=(M+63) / 64
 case neg=>
  refine(Em w M a n cap om ((M+63) / 64) om c (by simp;omega)).mono ?_;rintro o w' ⟨rfl,rfl⟩;refine⟨ai ?_,b⟩;have:¬l.length=(M+63) / 64:=om;simp[okP,this]
 have d:l.length=(M+63) / 64:=om;have g:okP (M:Int) l=xa l M l.length:=by
  simp[okP,<- d];omega
 rw[g,<- f];exact BN w M a n cap l h om om (by rw[c,e]) om
def unL(l:List Nat)(N:Nat):List Nat:=(List.range N).map fun i=>48+lev l i
def kV(l:List Nat)(N:Nat):(unL l N).length=N:=by simp[unL]
def yw(l:List Nat)(k:Nat):unL l (k+1)=unL l k++[48+lev l k]:=by simp[unL,List.range_succ]
def lU(l:List Nat)(i:Nat):lev l i<2:=by unfold lev;omega
def nK(l:List Nat)(N:Nat):∀x∈unL l N,x<256:=by
 intro x b;simp only[unL,List.mem_map]at b;obtain⟨i,_,rfl⟩:=b;have:=lU l i;omega
def unZ(N:Int)(l:List Nat):ByteArray:=if okP N l=true then ag (unL l N.toNat)else⟨#[]⟩
def ya(w0 wr:Wd)(j:o.guard=nn)(s x:Operand)
  (ho:o.op= .call {callee:=.builtin .append,args:=#[s,x],argTypes:=#[33,33]})
  (B:Nat) (v:Value) (l:List Nat) (c:Nat) (d:Int) (i:d=(c:Int)) (hs:a.eval s=v) (n:ae wr B v l)
  (b:Nat) (g:b=wr.heap.size) (p:a.eval x=sL (be b) 1 1) (k:l.length<=100000000) (hB:B<=wr.heap.size) (f:Below B w0 wr)
  (h:∀e w',ae w' B e (l++[c])->Below B w0 w'->B<=w'.heap.size->wpList Tp ops Q rest (a.put o.dst e) w') :
  wpList Tp ops Q (o::rest) a (wr.alloc (.cells #[I .u8 d] 5)):=by
 subst g;exact fM w0 wr j s x ho B v l c d i hs n p k hB f h
def AY{w:Wd}{g:Nat}{l:List Nat}(h:∀t(k:t<l.length),w.cell? ⟨g,t,nn⟩=sQ (I .u8 (l[t]:Int)))(i:∀x∈l,x<256):(convert 33 9 (sL (be g) l.length l.length)).run Tp w= .ok (.string (ag l)) w:=by
 have:=run_convert_bytes_back (P:=Tp) w 33 9 5 ⟨g,0,nn⟩ l.length (l.map UInt8.ofNat) underlying33 underlying5 underlying9 (by
  intro j f;have b:j<l.length:=by simpa using f
  have d:=h j b
  have n:=i l[j] (ql b)
  have e:(UInt8.ofNat l[j]).toNat=l[j]:=by simp;omega
  have c:(⟨g,0,nn⟩:Addr).add j=⟨g,j,nn⟩:=by simp only[Addr.add];split<;>simp_all
  rw[c,za,e]
  exact d)
 rw[qP]at this;exact this
def mM(w:Wd)(N:Nat)(a:Option Addr)(n cap:Nat)(l:List Nat)(h:ah w a n cap l)(g:okP (N:Int) l=true):ce 74 #[pkV (N:Int) a n cap] w fun o w'=>o=rT (.string (ag (unL l N)))/\Bl w w':=by
 obtain⟨H,A,D⟩:=jZ g;have C:=h.len;have K:N<=64*n:=om;have S:n<=1000:=om;have p:=hI h;have x:=hI g;clear h g C A D;go_enter func74,ntmps74;go_wp2_with(go_at_call 117;refine(sH _ (N:Int) a n cap l (p.o.below Zw)).mono ?_;rintro o e ⟨rfl,t⟩;rw[x.o];have c:Below (w.heap.size+1) (w.alloc (pkC (N:Int) a n cap 56)) e:=t.mono pQ;obtain⟨s,c1,hB⟩:=nX c);have j:w.heap.size+1<=e.heap.size:=by have:=c.size;simpa using this
 have b:=kX e (w.heap.size+1) j;have d:=c.alloc j (.cells #[] 5);go_loopw [3,4] (fun v i wr=>∃k:Nat,k<=N/\i=I J (k:Int)/\ae wr (w.heap.size+1) v (unL l k)/\Below (w.heap.size+1) (w.alloc (pkC (N:Int) a n cap 56)) wr/\w.heap.size+1<=wr.heap.size) (fun _ i _=>N-(intOf i).toNat);case atStart=>exact⟨0,nZ _,rfl,b,d,by simp;omega⟩
 case round=>
  clear b d j s c1 hB c t;obtain⟨k,O,rfl,b,f,G⟩:=hrel;obtain⟨s,c1,hB⟩:=nX f;by_cases P:k<N
  .have HZ:=hI (qB f (qB hB b));have y:=hI (lU l k);have r:=hI (qB (yw l k) (kV l k));clear f hB b;have R:=y.o;have u:Hid (∀W,ah W a n cap l->ce 71 #[pkV (N:Int) a n cap,I J (k:Int)] W fun o w'=>o=rT (I J (lev l k:Int))/\w'=W.alloc (pkC (N:Int) a n cap 56)):=fun W B=>dc (F:=71) W (N:Int) a n cap l B k om om;generalize lev l k=L at*;go_wp2_with(first|(go_at_call 71;refine(u.o _ (p.o.below HZ.o.2.1)).mono ?_;rintro o e ⟨rfl,rfl⟩)|(at_builtin;refine ya (w.alloc (pkC (N:Int) a n cap 56)) (wr.alloc (pkC (N:Int) a n cap 56)) rfl (.tmp 15) (.tmp 21) rfl (w.heap.size+1) _ (unL l k) (48+L) _ ?_ rfl (Qx HZ.o.2.2 _) (wr.heap.size+1) pQ rfl ?_ ?_ (HZ.o.1.alloc G _) ?_))
   .push_cast;rfl
   .have:=r.o.2;omega
   .simp;omega
   .intro v2 w2 ho2 d hz2;have E:ae w2 (w.heap.size+1) v2 (unL l (k+1)):=by rw[r.o.1];exact ho2
    go_wp2;go_roundw;case rel=>exact⟨k+1,om,by go_num,E,d,hz2⟩
    case measure=>simp[intOf];omega
  .have hkN:k=N:=om;subst hkN;have M:=mB b (nK l k);go_wp2;go_ret;exact⟨rfl,hB⟩
def wA(w:Wd)(N:Nat)(a:Option Addr)(n cap:Nat)(l:List Nat)(h:ah w a n cap l)(r:okP (N:Int) l=true):ce 138 #[pkV (N:Int) a n cap] w fun o w'=>o=rT (.string (ag (unL l N)))/\Bl w w':=by
 obtain⟨hN,P,Y⟩:=jZ r;have X:=h.len;have a0:N<=64*n:=om;have hn:n<=1000:=om;have v:=hI h;have M:=hI r;clear h r X P Y;go_enter func138,ntmps138;go_wp2_with(first|(go_at_call 194;refine(ey _ (N:Int) a n cap l (v.o.below Zw) om).mono ?_;rintro o s ⟨rfl,A⟩;rw[M.o];have f:Below (w.heap.size+1) (w.alloc (pkC (N:Int) a n cap 56)) s:=A.mono pQ;obtain⟨x,c1,hB⟩:=nX f)|(at_make;refine jh _ rfl (.tmp 9) (.tmp 9) rfl _ N rfl rfl rfl om ?_;intro w2 b C D));have Z:w.heap.size+1<=s.heap.size:=by have:=f.size;simpa using this
 have B:=f.grown C Z (by intro k e;cases e);clear A hB x c1 C f;generalize U:s.heap.size=g at*;clear U;go_loopw [13] (fun i wr=>∃k:Nat,k<=N/\i=I J (k:Int)/\bV wr g N (fun t=>if t<k then 48+lev l t else 0)/\Below (w.heap.size+1) (w.alloc (pkC (N:Int) a n cap 56)) wr/\g<wr.heap.size) (fun i _=>N-(intOf i).toNat);case atStart=>exact⟨0,nZ _,rfl,b.of (fun t _=>by simp),B,D⟩
 case round=>
  clear b B D;obtain⟨k,hk,rfl,b,d,hz⟩:=hrel;obtain⟨x,c1,hB⟩:=nX d;by_cases j:k<N
  .have HZ:=hI (qB d (qB hB b));have a1:(wr.alloc (pkC (N:Int) a n cap 56)).cell? ⟨g,k,nn⟩=sQ (I .u8 _):=(((bW (g+1) wr).alloc om _).cell (p:=⟨g,k,nn⟩) pQ).trans (b.cell k j);have a2:(wr.alloc (pkC (N:Int) a n cap 56)).frozen? ⟨g,k,nn⟩=false:=(((bW (g+1) wr).alloc om _).frozen (p:=⟨g,k,nn⟩) pQ).trans (b.free k j);have O:Hid (bV (wr.alloc (pkC (N:Int) a n cap 56)) g N (fun t=>if t<k then 48+lev l t else 0)):=by
    refine⟨fun t c=>?_,fun t c=>?_⟩
    .exact (((bW (g+1) wr).alloc om _).cell (p:=⟨g,t,nn⟩) pQ).trans (b.cell t c)
    .exact (((bW (g+1) wr).alloc om _).frozen (p:=⟨g,t,nn⟩) pQ).trans (b.free t c)
   have u:Hid (Below (w.heap.size+1) (w.alloc (pkC (N:Int) a n cap 56)) (wr.alloc (pkC (N:Int) a n cap 56))/\g<(wr.alloc (pkC (N:Int) a n cap 56)).heap.size):=⟨d.alloc om _,by simp;omega⟩
   have a3:=lU l k;have E:Hid (∀W,ah W a n cap l->ce 195 #[pkV (N:Int) a n cap,I J (k:Int)] W fun o w'=>o=rT (I J (lev l k:Int))/\w'=W.alloc (pkC (N:Int) a n cap 56)):=fun W R=>dc W (N:Int) a n cap l R k om om;have H:Hid (∀t,t<N->t≠k->(if t<k then 48+lev l t else 0)=(if t<k+1 then 48+lev l t else 0)):=by
    intro t _ hne;by_cases h1:t<k
    .rw[QW h1,QW om]
    .rw[QV h1,QV om]
   have G:Hid (((48+lev l k:Nat):Int)=((if k<k+1 then 48+lev l k else 0:Nat):Int)):=by unfold Hid;rw[QW (Nat.lt_succ_self k)]
   clear d hB b;generalize y:lev l k=L at*;have K:=hI y;clear y;generalize S:wr.alloc (pkC (N:Int) a n cap 56)=W3 at*;go_wp2_with(go_at_call 195;refine(E.o _ (v.o.below HZ.o.2.1)).mono ?_;rintro o w3 ⟨rfl,rfl⟩;rw[S]);go_roundw;case rel=>
    refine⟨k+1,om,by go_num,O.o.set' k j _ ?_ H.o,u.o.1.setCell (by simp;omega) _,by simpa using u.o.2⟩;have:=G.o;rw[K.o];push_cast at this ⊢
    exact this
   case measure=>simp[intOf];omega
  .have hkN:k=N:=om
   subst hkN;have T:=AY (w:=wr) (g:=g) (l:=unL l k) (fun t c=>by
    rw[kV]at c
    rw[b.cell t c,QW c]
    simp[unL]) (nK l k)
   rw[kV]at T;go_wp2;go_ret;exact⟨rfl,hB⟩
def lF(w:Wd)(N:Int)(a:Option Addr)(n cap:Nat)(l:List Nat)(h:ah w a n cap l):ce 74 #[pkV N a n cap] w fun o w'=>o=rT (.string (unZ N l))/\Bl w w':=by
 cases hok:okP N l
 .have HH:=hI h;have c:=hI hok;have b:Hid (unZ N l=⟨#[]⟩):=by unfold Hid unZ;rw[hok];rfl
  clear h hok;go_enter func74,ntmps74;go_wp2_with(go_at_call 117;refine(sH _ N a n cap l (HH.o.below Zw)).mono ?_;rintro o e ⟨rfl,d⟩;rw[c.o]);go_ret;exact⟨cS b.o.symm,Zw.trans (d.mono pQ)⟩
 .obtain⟨M,rfl⟩:∃M:Nat,N=(M:Int):=⟨N.toNat,by
   simp only[okP,Q3,qK]at hok
   omega⟩
  have b:unZ (M:Int) l=ag (unL l M):=by unfold unZ;rw[QW hok];rfl
  rw[b];exact mM w M a n cap l h hok
end
end Go.Proofs.YtbbffcolnddcdaaGreatDoor
