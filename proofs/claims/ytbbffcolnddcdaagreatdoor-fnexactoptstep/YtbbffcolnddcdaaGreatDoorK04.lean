import Derived.Test.YtbbffcolnddcdaaGreatDoorK03
import Derived.Test.YtbbffcolnddcdaaGreatDoorProg
import Derived.WalkKit
import Derived.WalkSpells
import Derived.WalkLawsBesides
import Derived.Deep.QuietTactic
import Derived.BigQuiet
import Derived.Below
import Derived.Laws.BitsAllLaws
import Derived.Laws.IdiomStrings
import Derived.Deep.RegionWith
import Derived.Deep.MidRow
import Derived.Maps.AppendAt
namespace Go.Proofs.YtbbffcolnddcdaaGreatDoor
open Go.Proofs.Tryz
set_option linter.all false
open Option renaming none->nn,some->sQ
open Go renaming World->Wd
open Go.RowKit
open Go.Value renaming int->I,slice->sL,bool->bO,pointer->pT,agg->aG
open Go.IntKind renaming i64->J
open Go.Ending renaming returned->rT
open Go.Proofs.Tryz renaming prog->Tp
def aL{k:IntKind}{a b:Int}(h:a=b):Ending.returned (.int k a)=rT (.int k b):=by rw[h]
def ai{a b:Bool}(h:a=b):Ending.returned (bO a)=rT (bO b):=by rw[h]
def eK(l:List Nat)(k:Nat)(h:k<l.length):l.getD k 0=l[k]:=by simp[List.getD,h]
def vY{W w1:Wd}(hb:Bl W w1):(∀b o,b<W.heap.size->w1.cell? ⟨b,o,nn⟩=W.cell? ⟨b,o,nn⟩)/\(∀b o,b<W.heap.size->w1.frozen? ⟨b,o,nn⟩=W.frozen? ⟨b,o,nn⟩):=
 ⟨fun b o h=>hb.cell (p:=⟨b,o,nn⟩) h,fun b o h=>hb.frozen (p:=⟨b,o,nn⟩) h⟩
def info5:(Tp.info? 5).map (fun i=>(i.zero,i.size,i.bytes))=sQ (sQ (I .u8 0),1,1):=kr
def bv(l:List Nat):List Value:=l.map (fun x:Nat=>Value.int .u8 (x:Int))
def oC(l m:List Nat):bv (l++m)=bv l++bv m:=by simp[bv]
def oz(l:List Nat)(j:Nat)(h:j<l.length):(bv l)[j]?=sQ (Value.int .u8 (l[j]:Int)):=by simp[bv,h]
def ae(w:Wd)(B:Nat)(v:Value)(l:List Nat):Prop:=w.ownsRow B 5 1 v l.length (bv l)
def fM{ops:Array Oper}{rest:List Oper}{o:Oper}{a:Act}{Q:Exit->Act->Wd->Prop}(w0 wr:Wd)(hgd:o.guard=nn)(s x:Operand)
  (ho:o.op= .call {callee:=.builtin .append,args:=#[s,x],argTypes:=#[33,33]})
  (B:Nat) (v:Value) (l:List Nat) (c:Nat) (ci:Int) (hci:ci=(c:Int)) (hs:a.eval s=v) (hown:ae wr B v l)
  (hx:a.eval x=sL (sQ ⟨wr.heap.size,0,nn⟩) 1 1) (hlen:l.length<=100000000) (hB:B<=wr.heap.size) (hbel:Below B w0 wr)
  (h:∀v' w',ae w' B v' (l++[c])->Below B w0 w'->B<=w'.heap.size->wpList Tp ops Q rest (a.put o.dst v') w') :
  wpList Tp ops Q (o::rest) a (wr.alloc (.cells #[I .u8 ci] 5)):=by
 subst hci;obtain⟨i0,hi,hz0,hz1,hz2⟩:=QH info5;refine QM _ hgd s x 33 ho B 5 i0 (I .u8 0) 1 1 underlying33 hi hz0 hz1 hz2 rfl (by decide) v l.length (bv l) hs (Qx hown _) ⟨wr.heap.size,0,nn⟩ 1 1 [I .u8 (c:Int)] hx rfl ?_ ?_ ?_ ?_ ?_ ?_
 .intro j u hj;match j,hj with
  |0,hj=>simp at hj;subst hj;simp[Addr.add]
 .intro u hu;simp at hu;subst hu;rfl
 .unfold maxLen;omega
 .omega
 .simp;omega
 .intro v' w' ho' hg _;have hr:∀k,v.ownBlock=sQ k->B<=k:=fun k hk=>(Qm hown k hk).1;refine h v' w' ?_ ((hbel.alloc hB _).grown hg (by simp;omega) hr) (Nat.le_trans (by simp;omega) hg.size);have e1:bv (l++[c])=bv l++[I .u8 (c:Int)]:=by simp[bv]
  unfold ae;rw[e1,QX];exact ho'
def kX(w:Wd)(B:Nat)(hB:B<=w.heap.size):ae (w.alloc (.cells #[] 5)) B (sL (sQ ⟨w.heap.size,0,nn⟩) 0 0) []:=
 World.ownsRow_made w #[] 0 hB (by decide) rfl
structure bV(w:Wd)(g n:Nat)(f:Nat->Nat):Prop where
 cell:∀t,t<n->w.cell? ⟨g,t,nn⟩=sQ (I .u8 (f t:Int))
 free:∀t,t<n->w.frozen? ⟨g,t,nn⟩=false
def bV.of{w:Wd}{g n:Nat}{f f':Nat->Nat}(h:bV w g n f)(he:∀t,t<n->f t=f' t):bV w g n f':=
 ⟨fun t ht=>by rw[<- he t ht];exact h.cell t ht,h.free⟩
def bV.set{w:Wd}{g n:Nat}{f f':Nat->Nat}(h:bV w g n f)(t0:Nat)(ht0:t0<n)(x:Int)(hx:x=(f' t0:Int))(he:∀t,t<n->t≠t0->f t=f' t):bV (w.setCell ⟨g,t0,nn⟩ (I .u8 x)).drew g n f':=by
 refine⟨fun t ht=>?_,fun t ht=>?_⟩
 .rw[QR];by_cases e:t=t0
  .subst e;rw[QD _ _ _ (h.cell t ht),hx]
  .rw[Qr _ _ _ _ (by intro hh;exact e (by simpa using hh.symm)),h.cell t ht,he t ht e]
 .rw[World.frozen?_drew,QL];exact h.free t ht
def jh{ops:Array Oper}{rest:List Oper}{o:Oper}{a:Act}{Q:Exit->Act->Wd->Prop}(w:Wd)
  (hg:o.guard=nn) (l c:Operand) (hop:o.op=Op.makeSlice 33 l c) (C:Int) (n:Nat) (hl:a.eval l=I J C) (hc:a.eval c=I J C) (hC:C=(n:Int)) (hn:n<=100000000)
  (hK:∀w',bV w' w.heap.size n (fun _=>0)->w.grownBy w' nn->w.heap.size<w'.heap.size->wpList Tp ops Q rest (a.put o.dst (sL (sQ ⟨w.heap.size,0,nn⟩) n n)) w') :
  wpList Tp ops Q (o::rest) a w:=by
 obtain⟨i0,hi,hz0,hz1,hz2⟩:=QH info5;refine wpList_make_full w hg l c 33 hop w.heap.size 5 i0 (I .u8 0) 1 underlying33 hi hz0 hz1 .i64 .i64 C C n hl hc hC hC (by rw[hz2];omega) (by unfold maxLen;omega) (Nat.le_refl _) ?_;intro w' ho hgr;refine hK w' ⟨fun t ht=>?_,fun t ht=>QF ho t⟩ hgr (Qm ho _ rfl).2;rw[QJ ho t om];have e:(madeCells (Value.int IntKind.u8 0).cells (n*1)).toList=List.replicate (n*1) (I .u8 0):=toList_madeCells_one _ _;rw[e,Nat.mul_one,List.getElem?_replicate,QW ht];rfl
def bV.set'{w:Wd}{g n:Nat}{f f':Nat->Nat}(h:bV w g n f)(t0:Nat)(ht0:t0<n)(x:Int)(hx:x=(f' t0:Int))(he:∀t,t<n->t≠t0->f t=f' t):bV (w.setCell ⟨g,t0,nn⟩ (I .u8 x)) g n f':=
 ⟨fun t ht=>by have:=(h.set t0 ht0 x hx he).cell t ht;rwa [QR]at this,fun t ht=>by rw[QL];exact h.free t ht⟩
def hI{P:Prop}(h:P):Hid P:=h
def wT{P:Program}{md:Region.Mode}{ops:Array Oper}{Q:Exit->Act->Wd->Prop}{S:Wd->Prop}{i:Nat}{oi:Oper}{v:Value}{fuel:Nat}{listed:Array Bool}{a:Act}{w:Wd}(hi:ops[i]?=sQ oi)(hs:Region.noSelect ops=true)(hf:Region.free md ops listed i=true)(hr:(Region.ready md ops listed).contains i=true)(hQ:∀c a w,Q (.panic c) (a.put oi.dst v) w->Q (.panic c) a w)(hy:YieldsIf P ops S oi v a)(hS:S w)(h:wpAnyH P md ops Q S fuel (listed.setIfInBounds i true) (a.put oi.dst v) w):wpAnyH P md ops Q S (fuel+1) listed a w:=wpAnyH_take hi hs hf hr hQ hy hS h
def aA{α:Type}(l:List α)(i:Nat)(a:α):l.toArray.setIfInBounds i a=(l.set i a).toArray:=List.setIfInBounds_toArray ..
def aB{α:Type}(x:α)(l:List α)(a:α):(x::l).set 0 a=a::l:=rfl
def aC{α:Type}(x:α)(l:List α)(n:Nat)(a:α):(x::l).set (n+1) a=x::l.set n a:=rfl
def aD{α:Type}(l:List α)(i:Nat)(h:i<l.toArray.size):l.toArray[i]=l[i]'(by simpa using h):=List.getElem_toArray ..
def aE{α:Type}(a:α)(l:List α)(h:0<(a::l).length):(a::l)[0]=a:=rfl
def aF{α:Type}(a:α)(l:List α)(i:Nat)(h:i+1<(a::l).length):(a::l)[i+1]=l[i]'(Nat.lt_of_succ_lt_succ h):=rfl
def wU{P:Program}{md:Region.Mode}{ops:Array Oper}{Q:Exit->Act->Wd->Prop}{S:Wd->Prop}(i:Nat){oi:Oper}(v:Value){fuel:Nat}{listed:Array Bool}{a:Act}{w:Wd}(hi:ops[i]?=sQ oi)(hy:YieldsIf P ops S oi v a)(hS:S w)(h:wpAnyH P md ops Q S fuel (listed.setIfInBounds i true) (a.put oi.dst v) w)(hk:(Region.noSelect ops&&(Region.free md ops listed i&&(Region.ready md ops listed).contains i))=true:=by kernel_rfl)(hQ:∀c a w,Q (.panic c) (a.put oi.dst v) w->Q (.panic c) a w:=by exact fun _ _ _ h=>h):wpAnyH P md ops Q S (fuel + 1) listed a w:= by
 simp only[Q3]at hk;exact wpAnyH_take hi hk.1 hk.2.1 hk.2.2 hQ hy hS h
def wV{P:Program}{md:Region.Mode}{ops:Array Oper}{Q:Exit->Act->Wd->Prop}{S:Wd->Prop}(i:Nat){oi:Oper}(v:Value){fuel:Nat}{listed:Array Bool}{a:Act}{w:Wd}(hy:∀w,S w->(execOp a.eval oi).run P w=.ok (.value v) w)(hS:S w)(h:wpAnyH P md ops Q S fuel (listed.setIfInBounds i true) (a.put oi.dst v) w)(hi:ops[i]?=sQ oi:=by rfl)(hk:(Region.noSelect ops&&(Region.free md ops listed i&&((Region.ready md ops listed).contains i&&Region.wanted oi (yielded ops a.tmps))))=true:=by kernel_rfl)(hQ:∀c a w,Q (.panic c) (a.put oi.dst v) w->Q (.panic c) a w:=by exact fun _ _ _ h=>h):wpAnyH P md ops Q S (fuel + 1) listed a w:= by
 simp only[Q3]at hk;exact wpAnyH_take hi hk.1 hk.2.1 hk.2.2.1 hQ (qp ⟨hk.2.2.2,hy⟩) hS h
def wW{P:Program}{md:Region.Mode}{ops:Array Oper}{Q:Exit->Act->Wd->Prop}{S:Wd->Prop}(i:Nat){oi:Oper}{fuel:Nat}{listed:Array Bool}{a:Act}{w:Wd}(hS:S w)(h:wpAnyH P md ops Q S fuel (listed.setIfInBounds i true) (a.put oi.dst undef) w)(hi:ops[i]?=sQ oi:=by rfl)(hk:(Region.noSelect ops&&(Region.free md ops listed i&&((Region.ready md ops listed).contains i&&!Region.wanted oi (yielded ops a.tmps))))=true:=by kernel_rfl)(hQ:∀c a w,Q (.panic c) (a.put oi.dst undef) w->Q (.panic c) a w:=by exact fun _ _ _ h=>h):wpAnyH P md ops Q S (fuel + 1) listed a w:= by
 simp only[Q3,Bool.not_eq_true']at hk;exact wpAnyH_take hi hk.1 hk.2.1 hk.2.2.1 hQ (qt ⟨hk.2.2.2,rfl⟩) hS h
abbrev zX:List Value:=[I J 0,I J 0,I J 0,I J 0,sL nn 0 0,sL nn 0 0,sL nn 0 0,sL nn 0 0,I J 0,I J 0]
def aZ:(∀(a:Act)(d:Tmp)(v:Value),a.put (sQ d) v={a with tmps:=a.tmps.setIfInBounds d v})/\(∀(a:Act)(v:Value),a.put nn v=a)/\(∀(α:Type)(l:List α)(i:Nat)(a:α),l.toArray.setIfInBounds i a=(l.set i a).toArray)/\(∀(α:Type)(x:α)(l:List α)(a:α),(x::l).set 0 a=a::l)/\(∀(α:Type)(x:α)(l:List α)(n:Nat)(a:α),(x::l).set (n+1) a=x::l.set n a)/\(∀(α:Type)(l:List α)(i:Nat)(h:i<l.toArray.size),l.toArray[i]=l[i]'(by simpa using h))/\(∀(α:Type)(a:α)(l:List α)(h:0<(a::l).length),(a::l)[0]=a)/\∀(α:Type)(a:α)(l:List α)(i:Nat)(h:i+1<(a::l).length),(a::l)[i+1]=l[i]'(Nat.lt_of_succ_lt_succ h):=⟨fun _ _ _=>rfl,fun _ _=>rfl,fun _=>aA,fun _=>aB,fun _=>aC,fun _=>aD,fun _=>aE,fun _=>aF⟩
theorem bN{P:Program}{fn:Func}{R:Ending->Wd->Prop}{e:Exit}{a:Act}{w:Wd}(hR:R (.returned (.tuple #[])) w)(hr:fn.results=#[]:=by rfl)(hd:a.defers=[]:=by rfl)(he:e= .ret\/e= .normal:=by first|exact .inl rfl|exact .inr rfl):bodyPost P fn R e a w:=by rcases he with rfl|rfl;exact bodyPost_ret (results_none hr _ _ _) hd hR;exact bodyPost_end (results_none hr _ _ _) hd hR
theorem Zs{ops:Array Oper}{rest:List Oper}{op:Oper}{a:Act}{w:Wd}{Q:Exit->Act->Wd->Prop}{x y:Operand}{b o:Nat}(ty:TypeId)(c:Array Value)(ht:w.there b o c.size)(hi:(Tp.info? ty).map (·.size)=some c.size)(h1:c.all (·.oneCell')=true)(h:wpList Tp ops Q rest (a.put op.dst undef) (w.setCells b o c.toList))(hg:op.guard=none:=by rfl)(ho:op.op= .store ty x y:=by rfl)(hx:a.eval x= .pointer (some ⟨b,o,none⟩):=by rfl)(hy:a.eval y= .agg c:=by rfl):wpList Tp ops Q (op::rest) a w:=wpList_store_mid hg ty x y ho b o c hx hy ht hi h1 h
abbrev zY:List Value:=[.int .i64 0,.int .i64 0,.int .i64 0,.bool false,.bool false,.bool false,.bool false,.bool false,.int .i64 0,.int .i64 0,.int .i64 0,.int .i64 0,.int .i64 0,.int .i64 0,.int .i64 0,.slice nn 0 0,.slice nn 0 0,.slice nn 0 0,.slice nn 0 0,.int .i64 0,.int .i64 0]
def nR(n:Nat):n<=n:=Nat.le_refl n
def bW(n:Nat)(w:Wd):Below n w w:=Below.refl n w
def Zw{w:Wd}{x:Obj}:Below w.heap.size w (w.alloc x):=(Below.refl _ _).alloc (Nat.le_refl _) _
theorem ZG{ops:Array Oper}{rest:List Oper}{op:Oper}{a:Act}{w:Wd}{Q:Exit->Act->Wd->Prop}{x:Operand}{b o:Nat}{d:TypeDesc}(ty:TypeId){cs:List Value}(hc:w.rangeAt b o cs)(hu:Tp.underlying ty=some d)(hi:(Tp.info? ty).map (·.size)=some cs.length)(h:wpList Tp ops Q rest (a.put op.dst (.agg cs.toArray)) w)(hg:op.guard=none:=by rfl)(ho:op.op= .load ty x:=by rfl)(hx:a.eval x= .pointer (some ⟨b,o,none⟩):=by rfl)(hd:d.isRow=true:=by rfl):wpList Tp ops Q (op::rest) a w:=wpList_load_mid hg ty x ho b o hx cs d hc hu hd hi h
theorem Zi{ops:Array Oper}{rest:List Oper}{op:Oper}{a:Act}{w:Wd}{Q:Exit->Act->Wd->Prop}{x:Operand}{b o:Nat}{d:TypeDesc}(ty:TypeId)(cs:List Value)(hc:w.rangeAt b o cs)(hu:Tp.underlying ty=some d)(hi:(Tp.info? ty).map (·.size)=some cs.length)(h:wpList Tp ops Q rest (a.put op.dst (.agg cs.toArray)) w)(hg:op.guard=none:=by rfl)(ho:op.op= .load ty x:=by rfl)(hx:a.eval x= .pointer (some ⟨b,o,none⟩):=by rfl)(hd:d.isRow=true:=by rfl):wpList Tp ops Q (op::rest) a w:=wpList_load_mid hg ty x ho b o hx cs d hc hu hd hi h
def nL{a b c:Nat}(h:a<b)(h2:b<=c):a<c:=Nat.lt_of_lt_of_le h h2
def nZ(n:Nat):0<=n:=Nat.zero_le n
def nT{a b c:Nat}(h:a<=b)(h2:b<=c):a<=c:=Nat.le_trans h h2
def nN(n:Nat):¬n<0:=Nat.not_lt_zero n
def nA(n k:Nat):n<=n+k:=Nat.le_add_right n k
section
@[reducible] def be(g:Nat):Option Addr:=Option.some ⟨g,0,Option.none⟩
@[reducible] def ap(g:Nat):Value:=Value.pointer (Option.some ⟨g,0,Option.none⟩)
@[reducible] def go(w:Wd):Nat:=w.heap.size
@[reducible] def ce:=@Calls Tp
theorem gt{P:Program}{n:FuncId}{a:Array Value}{w v:Wd}{x:Ending}{R:Ending->Wd->Prop}(h:Calls P n a w fun o w'=>o=x/\w'=v)(k:R x v):Calls P n a w R:=h.mono (by rintro _ _ ⟨rfl,rfl⟩;exact k)
theorem ii{P:Program}{n:FuncId}{a:Array Value}{w:Wd}{x:Ending}{S:Wd->Prop}{R:Ending->Wd->Prop}(h:Calls P n a w fun o w'=>o=x/\S w')(k:∀w',S w'->R x w'):Calls P n a w R:=h.mono (by rintro _ w' ⟨rfl,q⟩;exact k w' q)
end
set_option maxRecDepth 20000
set_option maxHeartbeats 16000000
section
variable{w w' W:Wd}{n g cap:Nat}{l:List Nat}
structure iB(w:Wd)(a:Option Addr)(n cap:Nat)(l:List Nat):Prop where
 len:n=l.length
 cap:n<=cap
 small:∀x∈l,x<256
 cells:l≠[]->∃g off,a=sQ ⟨g,off,nn⟩/\∀j(h:j<l.length),w.cell? ⟨g,off+j,nn⟩=sQ (I .u8 (l[j]:Int))
def iB.below{a:Option Addr}(h:iB w a n cap l)(c:Bl w w'):iB w' a n cap l:=by
 refine⟨h.len,h.cap,h.small,fun f=>?_⟩;obtain⟨g,off,b,d⟩:=h.cells f;refine⟨g,off,b,fun j e=>?_⟩;have h1:=d j e;rw[c.cell (Qn w _ h1)];exact h1
def ay(w:Wd)(g m:Nat):Prop:=∀t,t<m->(∃v,w.cell? ⟨g,t,nn⟩=sQ v)/\w.frozen? ⟨g,t,nn⟩=false
def bV.up{f:Nat->Nat}(h:bV w g n f)(he:W.heap[g]?=w.heap[g]?):bV W g n f:=
 ⟨fun t ht=>by have:=h.cell t ht;simp only[World.cell?,he]at this ⊢;exact this,fun t ht=>by have:=h.free t ht;simp only[World.frozen?,he]at this ⊢;exact this⟩
def ay.up{m:Nat}(h:ay w g m)(he:W.heap[g]?=w.heap[g]?):ay W g m:=fun t ht=>by
 have:=h t ht;simp only[World.cell?,World.frozen?,he]at this ⊢;exact this
def rE(w:Wd)(a:Option Addr)(n cap:Nat)(l:List Nat)(h:iB w a n cap l)(P:n<=1048576):ce 123 #[sL a n cap] w fun e w'=>∃g,e=rT (sL (be g) n n)/\iB w' (be g) n n l/\Bl w w'/\w.heap.size<=g/\g<w'.heap.size/\∃f,bV w' g n f:=by
 have d:=h.len;have L:=h.cap;by_cases u:l=[]
 .subst u;have G:n=0:=d;subst G;have C:Hid (∀x∈([]:List Nat),x<256):=h.small;clear d h;go_enter func123,ntmps123;go_wp2_with(at_make;refine jh _ rfl (.tmp 6) (.tmp 6) rfl _ 0 rfl rfl rfl om ?_;intro K b s r);go_loopw [4] (fun i wr=>i=I J 0/\Bl w wr/\w.heap.size<wr.heap.size) (fun _ _=>0);case atStart=>exact⟨rfl,(bW _ _).grown s (nR _) (by intro k e;cases e),r⟩
  case round=>
   obtain⟨rfl,c,p⟩:=hrel;go_wp2;go_ret;exact⟨_,rfl,⟨rfl,nR _,C.o,fun e=>Qj rfl e⟩,c,nR _,p,(fun _=>0),⟨fun t y=>Qj y (nN _),fun t y=>Qj y (nN _)⟩⟩
 .obtain⟨g,off,rfl,hc⟩:=h.cells u;have D:g<w.heap.size:=Qn w _ (hc 0 (by have:=List.length_pos_iff.2 u;omega));have H:=h.small;have B:Hid (n=l.length):=d;have Q:n<=l.length:=om;have R:l.length<=n:=om;clear h d;go_enter func123,ntmps123;go_wp2_with(at_make;refine jh _ rfl (.tmp 6) (.tmp 6) rfl _ n rfl rfl rfl om ?_;intro K b s r);go_loopw [4] (fun i wr=>∃k:Nat,k<=n/\i=I J k/\bV wr w.heap.size n (fun t=>if t<k then l.getD t 0 else 0)/\Bl w wr/\w.heap.size<wr.heap.size) (fun i _=>n-(intOf i).toNat);case atStart=>exact⟨0,nZ _,rfl,b.of (fun t _=>by simp),(bW _ _).grown s (nR _) (by intro k e;cases e),r⟩
  case round=>
   clear b r;obtain⟨k,O,rfl,b,c,p⟩:=hrel;by_cases v:k<n
   .have hcx:wr.cell? ⟨g,off+k,nn⟩=sQ (I .u8 (l[k]:Int)):=(c.cell (by exact D)).trans (hc k om);have M:=b.cell k v;have N:=b.free k v;have A:Hid (l.getD k 0=l[k]):=eK l k om;generalize l[k]=x at*;have hne:¬w.heap.size=g:=om;go_wp2;go_roundw;case rel=>
     refine⟨k+1,om,by go_num,b.set' k v _ ?_ ?_,c.setCell (by exact nR _) _,by simpa using p⟩
     .rw[QW (Nat.lt_succ_self k),A.o]
     .intro t _ hne';by_cases h1:t<k
      .rw[QW h1,QW om]
      .rw[QV h1,QV om]
    case measure=>simp[intOf];omega
   .go_wp2;go_ret;refine⟨_,rfl,⟨B.o,nR _,H,fun _=>⟨_,0,rfl,fun j E=>?_⟩⟩,c,nR _,p,_,b⟩;have:=b.cell j om;rw[qg,this,QW om,eK l j E]
abbrev frV(e:Bool)(i:Nat)(r:Bool)(d:Int)(a:Option Addr)(n cap:Nat):Value:=aG #[bO e,I .u32 (i:Int),bO r,I J d,sL a n cap]
abbrev frC(e:Bool)(i:Nat)(r:Bool)(d:Int)(a:Option Addr)(n cap:Nat)(T:TypeId):Obj:=.cells #[bO e,I .u32 (i:Int),bO r,I J d,sL a n cap] T
def kt(w:Wd)(a:Option Addr)(n cap:Nat)(m:Nat)(c:n<=9223372036854775807)(b:m<=1048576):ce 98 #[sL a n cap,I J m] w fun o w'=>o=rT (I J (if(n:Int)<=(m:Int)then(m:Int)-(n:Int)else -1))/\w=w':=by
 by_cases h:(n:Int)<=(m:Int)
 .rw[QW h];go_enter func98,ntmps98;go_wp2;go_ret;exact⟨rfl,rfl⟩
 .rw[QV h];go_enter func98,ntmps98;go_wp2;go_ret;exact⟨rfl,rfl⟩
def dC(w:Wd)(e:Bool)(i:Nat)(r:Bool)(d:Int)(a:Option Addr)(n cap:Nat)(m:Nat)(c:n<=9223372036854775807)(b:m<=1048576):ce 41 #[frV e i r d a n cap,I J m] w fun o w'=>o=rT (I J (if(n:Int)<=(m:Int)then(m:Int)-(n:Int)else -1))/\w.alloc (frC e i r d a n cap 35)=w':=by
 by_cases h:(n:Int)<=(m:Int)
 .have HC:Hid (∀W,ce 98 #[sL a n cap,I J m] W fun o w'=>o=rT (I J ((m:Int)-(n:Int)))/\W=w'):=by
   intro W;have:=kt W a n cap m c b;rw[QW h]at this;exact this
  rw[QW h];go_enter func41,ntmps41;go_wp2_with(go_at_call 98;refine(HC.o _).mono ?_;rintro o f ⟨rfl,rfl⟩);go_ret;exact⟨rfl,rfl⟩
 .have HC:Hid (∀W,ce 98 #[sL a n cap,I J m] W fun o w'=>o=rT (I J (-1))/\W=w'):=by
   intro W;have:=kt W a n cap m c b;rw[QV h]at this;exact this
  rw[QV h];go_enter func41,ntmps41;go_wp2_with(go_at_call 98;refine(HC.o _).mono ?_;rintro o f ⟨rfl,rfl⟩);go_ret;exact⟨rfl,rfl⟩
def iB.other(h:iB w (be g) n cap l)(c:w'.heap[g]?=w.heap[g]?):iB w' (be g) n cap l:=by
 refine⟨h.len,h.cap,h.small,fun d=>?_⟩;obtain⟨f,off,a,b⟩:=h.cells d;cases a;refine⟨g,0,rfl,fun t e=>?_⟩;have:=b t e;simp only[World.cell?,c]at this ⊢;exact this
def kl(w:Wd)(e:Bool)(i:Nat)(r:Bool)(d:Int)(a:Option Addr)(n cap:Nat)(l:List Nat)(h:iB w a n cap l)(s:n<=1048576):ce 77 #[frV e i r d a n cap] w fun o w'=>∃g,o=rT (frV e i r d (be g) n n)/\iB w' (be g) n n l/\Bl w w'/\w.heap.size+3<=g/\g<w'.heap.size/\∃f,bV w' g n f:=by
 have k:Hid (iB w a n cap l):=h;clear h;go_enter func77,ntmps77;go_wp2_with(go_at_call 123;refine(rE _ a n cap l (k.o.below ?_) s).mono ?_)
 .exact (Zw.alloc pQ _).alloc (by simp;omega) _
 .rintro o w1 ⟨g,rfl,hby,hb,hg,hgz,f,hrow⟩;have j:Hid (g<w1.heap.size):=hgz;clear hgz;obtain⟨p,t⟩:=vY hb;have hB:Bl w w1:=((Zw.alloc pQ _).alloc (by simp;omega) _).trans (hb.mono (by simp;omega));have c:Hid (w.heap.size+1+1+1<=g):=by unfold Hid;simpa using hg
  have b:Hid (iB w1 (be g) n n l/\bV w1 g n f):=⟨hby,hrow⟩
  clear hb hg hby hrow;go_wp2;refine Qp (v:=frV e i r d (be g) n n) (by simp[results,results77,go_sem,p]) rfl ?_;have u:=c.o;refine⟨g,rfl,b.o.1.other ?_,?_,om,by simpa using j.o,f,b.o.2.up ?_⟩
  .repeat rw[Ql _ _ g _ (by show g≠_;simp;omega)]
  .repeat refine Below.setCell ?_ (by simp;try omega) _
   exact hB
  .repeat rw[Ql _ _ g _ (by show g≠_;simp;omega)]
def km(w:Wd)(e:Bool)(i:Nat)(r:Bool)(d:Int)(a:Option Addr)(n cap:Nat)(l:List Nat)(h:iB w a n cap l)(hn:n<=1048576):ce 77 #[frV e i r d a n cap] w fun o w'=>∃g,o=rT (frV e i r d (be g) n n)/\iB w' (be g) n n l/\Bl w w'/\w.heap.size<=g/\g<w'.heap.size/\ay w' g n:=
 (kl w e i r d a n cap l h hn).mono fun o w' ⟨g,e,h1,h2,h3,h4,f,hf⟩=>⟨g,e,h1,h2,om,h4,fun t ht=>⟨⟨_,hf.cell t ht⟩,hf.free t ht⟩⟩
def ra(w:Wd)(a1 a2:Option Addr)(n1 c1 n2 c2:Nat)(l:List Nat)(h1:iB w a1 n1 c1 l)(a:iB w a2 n2 c2 l)(s:n1<=1048576):ce 146 #[sL a1 n1 c1,sL a2 n2 c2] w fun o w'=>o=rT (bO true)/\∃q,w'=w.drewN q:=by
 have b:=h1.len;have c:=a.len;by_cases d:l=[]
 .subst d;have e:n1=0:=b;have f:n2=0:=c;subst e f;clear b c h1 a;go_enter func146,ntmps146;go_wp2;go_loopw [5] (fun i wr=>i=I J 0/\wr=w) (fun _ _=>0);case atStart=>exact⟨rfl,rfl⟩
  case round=>
   obtain⟨rfl,rfl⟩:=hrel;go_wp2;go_ret;exact⟨rfl,0,rfl⟩
 .obtain⟨g1,o1,rfl,k1⟩:=h1.cells d;obtain⟨j,u,rfl,k2⟩:=a.cells d;have h:n2=n1:=om;subst h;have t:n2<=l.length:=om;clear b c h1 a;go_enter func146,ntmps146;go_wp2;go_loopw [5] (fun i wr=>∃k:Nat,k<=n2/\i=I J k/\∃q,wr=w.drewN q) (fun i _=>n2-(intOf i).toNat);case atStart=>exact⟨0,nZ _,rfl,0,rfl⟩
  case round=>
   obtain⟨k,p,rfl,q,rfl⟩:=hrel;by_cases r:k<n2
   .have c1:=k1 k om;have c2:=k2 k om;generalize l[k]=x at*;go_wp2;go_quiet (fail);go_wp2;go_roundw;case rel=>exact⟨k+1,om,by go_num,_,rfl⟩
    case measure=>simp[intOf];omega
   .go_wp2;go_ret;exact⟨rfl,_,rfl⟩
def hJ(w:Wd)(e:Bool)(i:Nat)(r:Bool)(d:Int)(a:Option Addr)(n cap:Nat)(l:List Nat)(h:iB w a n cap l)(b:Option Addr)(f c:Nat)(k:iB w b f c l)(u:n<=1048576):ce 86 #[frV e i r d a n cap,frV e i r d b f c] w fun o w'=>o=rT (bO true)/\Bl w w':=by
 have s:Hid (iB w a n cap l):=h;have t:Hid (iB w b f c l):=k;clear h k;have x:(e !=e)=false:=pQ;have hR:(r !=r)=false:=pQ;have v:(d !=d)=false:=pQ;have hI:((i:Int) !=(i:Int))=false:=pQ;have p:Bl w ((w.alloc (frC e i r d a n cap 53)).alloc (frC e i r d b f c 53)):=Zw.alloc pQ _;have j:Hid (Bl w ((w.alloc (frC e i r d a n cap 53)).alloc (frC e i r d b f c 53))):=p;clear p;go_enter func86,ntmps86;go_wp2_with(go_at_call 146;refine(ra _ _ _ _ _ _ _ l (s.o.below j.o) (t.o.below j.o) u).mono ?_;rintro o y ⟨rfl,q,rfl⟩);go_ret;exact⟨rfl,QB j.o q⟩
end
abbrev flV(e:Bool)(m k:Int):Value:=aG #[bO e,I .u32 m,I .u32 k]
abbrev cfV(a b c d:Int):Value:=aG #[I J a,I J b,I J c,I J d]
abbrev bxV(x y z:Int)(e:Bool)(i:Nat)(r:Bool)(d:Int)(a:Option Addr)(n cap:Nat):Value:=aG #[I J x,I J y,I J z,bO e,I .u32 (i:Int),bO r,I J d,sL a n cap]
def oV(w:World)(e:Bool)(m k:Int):ce 166 #[flV e m k] w fun o w'=>o=rT (flV e m k)/\Bl w w':=by
 go_enter func166,ntmps166;go_wp2;refine Qp (v:=flV e m k) (by simp[results,results166,go_sem]) rfl ?_;exact⟨rfl,(Zw.alloc pQ _).alloc (by simp;omega) _⟩
def oW(w:World)(a b c d:Int):ce 118 #[cfV a b c d] w fun o w'=>o=rT (cfV a b c d)/\Bl w w':=by
 go_enter func118,ntmps118;go_wp2;refine Qp (v:=cfV a b c d) (by simp[results,results118,go_sem]) rfl ?_;exact⟨rfl,(Zw.alloc pQ _).alloc (by simp;omega) _⟩
def ny(w:World)(e:Bool)(m k:Int):ce 200 #[flV e m k,flV e m k] w fun o w'=>o=rT (bO true)/\Bl w w':=by
 have a:(e !=e)=false:=pQ;have c:(m !=m)=false:=pQ;have b:(k !=k)=false:=pQ;go_enter func200,ntmps200;go_wp2;go_ret;exact⟨rfl,Zw.alloc pQ _⟩
def nz(w:World)(a b c d:Int):ce 141 #[cfV a b c d,cfV a b c d] w fun o w'=>o=rT (bO true)/\Bl w w':=by
 have e:(a !=a)=false:=pQ;have h:(b !=b)=false:=pQ;have f:(c !=c)=false:=pQ;have g:(d !=d)=false:=pQ;go_enter func141,ntmps141;go_wp2;go_ret;exact⟨rfl,Zw.alloc pQ _⟩
def BA{F:FuncId}(w:World)(x y z:Int)(e:Bool)(i:Nat)(r:Bool)(d:Int)(a:Option Addr)(n cap:Nat)(l:List Nat)(h:iB w a n cap l)(s:n<=1048576)(hF:F=167\/F=168:=by decide):ce F #[bxV x y z e i r d a n cap] w fun o w'=>∃g,o=rT (bxV x y z e i r d (be g) n n)/\iB w' (be g) n n l/\Bl w w'/\w.heap.size<=g/\g<w'.heap.size/\ay w' g n:=by
 rcases hF with rfl|rfl;all_goals
  have f:=hI h;clear h;first|go_enter func167,ntmps167|go_enter func168,ntmps168
  go_wp2_with(go_at_call 77;refine(km _ e i r d a n cap l (f.o.below ?_) s).mono ?_)
  .exact (Zw.alloc pQ _).alloc (by simp;omega) _
  .rintro o w1 ⟨g,rfl,hby,hb,hg,hgz,hrf⟩;have c:=hI hgz;have j:=hI hrf;clear hgz hrf;obtain⟨p,t⟩:=vY hb;have hB:=((Zw.alloc pQ _).alloc (by simp;omega) _).trans (hb.mono (by simp;omega));have b:Hid (w.heap.size+1+1+1<=g):=by unfold Hid;simpa using hg
   have k:=hI hby;clear hb hg hby;go_wp2;refine Qp (v:=bxV x y z e i r d (be g) n n) (by simp[results,results167,results168,go_sem,p]) rfl ?_;have u:=b.o;refine⟨g,rfl,k.o.other ?_,?_,om,by simpa using c.o,j.o.up ?_⟩
   .repeat rw[Ql _ _ g _ (by show g≠_;simp;omega)]
   .repeat refine Below.setCell ?_ (by simp;try omega) _
    exact hB
   .repeat rw[Ql _ _ g _ (by show g≠_;simp;omega)]
def AO{F:FuncId}(w:World)(x y z:Int)(e:Bool)(i:Nat)(r:Bool)(d:Int)(a:Option Addr)(n cap:Nat)(l:List Nat)(h:iB w a n cap l)(b:Option Addr)(g c:Nat)(j:iB w b g c l)(v:n<=1048576)(hF:F=201\/F=202:=by decide):ce F #[bxV x y z e i r d a n cap,bxV x y z e i r d b g c] w fun o w'=>o=rT (bO true)/\Bl w w':=by
 rcases hF with rfl|rfl;all_goals
  have p:=hI h;have s:=hI j;clear h j;have A:(x !=x)=false:=pQ;have B:(y !=y)=false:=pQ;have C:(z !=z)=false:=pQ;have k:Hid (∀W,Bl w W->ce 86 #[frV e i r d a n cap,frV e i r d b g c] W fun o w'=>o=rT (bO true)/\Bl w w'):=by
   intro W f;refine(hJ W e i r d a n cap l (p.o.below f) b g c (s.o.below f) v).mono ?_;rintro o w' ⟨rfl,t⟩;exact⟨rfl,f.trans (t.mono f.size)⟩
  first|go_enter func201,ntmps201|go_enter func202,ntmps202
  go_wp2_with(go_at_call 86;refine(k.o _ (Zw.alloc pQ _)).mono ?_;rintro o D ⟨rfl,u⟩);go_ret;exact⟨rfl,u⟩
def vn{F:FuncId}(w:World)(x y z:Int)(e:Bool)(i:Nat)(r:Bool)(d:Int)(a:Option Addr)(n cap:Nat)(m:Nat)(c:n<=9223372036854775807)(b:m<=1048576)(hF:F=157\/F=158:=by decide):ce F #[bxV x y z e i r d a n cap,I J m] w fun o w'=>o=rT (I J (if(n:Int)<=(m:Int)then(m:Int)-(n:Int)else -1))/\Bl w w':=by
 rcases hF with rfl|rfl;all_goals
  by_cases h:(n:Int)<=(m:Int)
  .have HC:Hid (∀W,ce 41 #[frV e i r d a n cap,I J m] W fun o w'=>o=rT (I J ((m:Int)-(n:Int)))/\W.alloc (frC e i r d a n cap 35)=w'):=by
    intro W;have:=dC W e i r d a n cap m c b;rw[QW h]at this;exact this
   rw[QW h];first|go_enter func157,ntmps157|go_enter func158,ntmps158
   go_wp2_with(go_at_call 41;refine(HC.o _).mono ?_;rintro o f ⟨rfl,rfl⟩);go_ret;exact⟨rfl,Zw.alloc pQ _⟩
  .have HC:Hid (∀W,ce 41 #[frV e i r d a n cap,I J m] W fun o w'=>o=rT (I J (-1))/\W.alloc (frC e i r d a n cap 35)=w'):=by
    intro W;have:=dC W e i r d a n cap m c b;rw[QV h]at this;exact this
   rw[QV h];first|go_enter func157,ntmps157|go_enter func158,ntmps158
   go_wp2_with(go_at_call 41;refine(HC.o _).mono ?_;rintro o f ⟨rfl,rfl⟩);go_ret;exact⟨rfl,Zw.alloc pQ _⟩
open Go.IntKind renaming i64->J,u32->Zk
section
variable{w w' W:Wd}{g o N B:Nat}{p:Wd->Prop}
structure R3 where
 e:Bool
 m:Int
 k:Int
structure at3(w:Wd)(g o:Nat)(b:R3):Prop where
 c0:w.cell? ⟨g,o,nn⟩=sQ (bO b.e)
 c1:w.cell? ⟨g,o+1,nn⟩=sQ (I Zk b.m)
 c2:w.cell? ⟨g,o+2,nn⟩=sQ (I Zk b.k)
structure bB(w:Wd)(a:Option Addr)(n cap:Nat)(bs:List R3):Prop where
 len:n=bs.length
 cap:n<=cap
 cells:bs≠[]->∃g off,a=sQ ⟨g,off,nn⟩/\∀j(h:j<bs.length),at3 w g (off+j*3) bs[j]
def at3.below{b:R3}(h:at3 w g o b)(a:Bl w w'):at3 w' g o b:=by
 have c:=Qn w _ h.c0;exact⟨(a.cell (by exact c)).trans h.c0,(a.cell (by exact c)).trans h.c1,(a.cell (by exact c)).trans h.c2⟩
def bB.below{a:Option Addr}{n cap:Nat}{b:List R3}(h:bB w a n cap b)(d:Bl w w'):bB w' a n cap b:=by
 refine⟨h.len,h.cap,fun i=>?_⟩;obtain⟨g,off,c,e⟩:=h.cells i;exact⟨g,off,c,fun j f=>(e j f).below d⟩
def info147:(Tp.info? 147).map (fun i=>(i.zero,i.size,i.bytes))=sQ (sQ (aG #[bO false,I Zk 0,I Zk 0]),3,12):=kr
structure bU(w:Wd)(g N:Nat):Prop where
 cell:∀t,t<N->∃v,w.cell? ⟨g,t,nn⟩=sQ v
 free:∀t,w.frozen? ⟨g,t,nn⟩=false
def fX{e:Array Oper}{rest:List Oper}{o:Oper}{a:Act}{Q:Exit->Act->Wd->Prop}(w:Wd)(T E:TypeId)(Z:Value)(b d:Nat)(s:(Tp.info? E).map (fun i=>(i.zero,i.size,i.bytes))=sQ (sQ Z,b,d))(x:Tp.underlying T=sQ (.slice E))(h:d<=1000)
  (k:o.guard=nn) (l c:Operand) (v:o.op=Op.makeSlice T l c) (C:Int) (n:Nat) (u:a.eval l=I J C) (j:a.eval c=I J C) (hC:C=(n:Int)) (L:n<=100000000)
  (f:∀w',bU w' w.heap.size (n*b)->w.grownBy w' nn->w.heap.size<w'.heap.size->wpList Tp e Q rest (a.put o.dst (sL (be w.heap.size) n n)) w') :
  wpList Tp e Q (o::rest) a w:=by
 obtain⟨G,hi,y,A,D⟩:=QH s;have K:d*n<=1000*n:=qx _ h;refine wpList_make_full w k l c T v w.heap.size E G Z b x hi y A .i64 .i64 C C n u j hC hC (by rw[D];omega) (by unfold maxLen;omega) (nR _) ?_;intro w' ho r;refine f w' ⟨fun t M=>?_,fun t=>QF ho t⟩ r (Qm ho _ rfl).2;rw[QJ ho t om];have H:(madeCells Z.cells (n*b)).toList.length=n*b:=ho.1;exact⟨_,Q4 om⟩
def aO(W:Wd)(g:Nat):Nat->List Value->Wd
 |_,[]=>W
 |p,v::vs=>aO (W.setCell ⟨g,p,nn⟩ v) g (p+1) vs
def rO(g:Nat):∀(a:List Value)(W:Wd)(p t:Nat),(t<p\/p+a.length<=t)->(aO W g p a).cell? ⟨g,t,nn⟩=W.cell? ⟨g,t,nn⟩:=by
 intro a;induction a with
 |nil=>intro W p t _;rfl
 |cons v a ih=>
  intro W p t h;simp only[qV]at h;show(aO (W.setCell ⟨g,p,nn⟩ v) g (p+1) a).cell? _=_;rw[ih _ (p+1) t om,Qr _ _ _ _ (by intro e;simp at e;try omega)]
def aM(g:Nat)(b:Nat)(c:b≠g):∀(a:List Value)(W:Wd)(p:Nat),(aO W g p a).heap[b]?=W.heap[b]?:=by
 intro a;induction a with
 |nil=>intro W p;rfl
 |cons v a ih=>intro W p;exact(ih _ (p+1)).trans (Ql W ⟨g,p,nn⟩ b v c)
def mQ(g:Nat)(q:Addr):∀(a:List Value)(W:Wd)(p:Nat),(aO W g p a).frozen? q=W.frozen? q:=by
 intro a;induction a with
 |nil=>intro W p;rfl
 |cons v a ih=>intro W p;rw[aO,ih,QL]
def cJ(g B:Nat)(hB:B<=g)(w0:Wd):∀(a:List Value)(W:Wd)(p:Nat),Below B w0 W->Below B w0 (aO W g p a):=by
 intro a;induction a with
 |nil=>intro W p h;exact h
 |cons v a ih=>intro W p h;exact ih _ _ (h.setCell (p:=⟨g,p,nn⟩) (by simpa using hB) v)
def az(g:Nat):∀(a:List Value)(W:Wd)(p t:Nat)(c:t<a.length),(∃u,W.cell? ⟨g,p+t,nn⟩=sQ u)->(aO W g p a).cell? ⟨g,p+t,nn⟩=sQ a[t]:=by
 intro a;induction a with
 |nil=>intro W p t c;cases c
 |cons v a ih=>
  intro W p t c b;cases t with
  |zero=>
   obtain⟨u,b⟩:=b;show(aO (W.setCell ⟨g,p,nn⟩ v) g (p+1) a).cell? ⟨g,p,nn⟩=sQ v;rw[rO g a _ (p+1) p om];exact QD _ _ _ b
  |succ t=>
   have e:p+(t+1)=p+1+t:=om;rw[e]at b ⊢;refine ih _ (p+1) t (by simpa using c) ?_;rw[Qr _ _ _ _ (by intro d;simp at d;try omega)];exact b
def bS(g:Nat):∀(a:List Value)(W:Wd)(p:Nat),(aO W g p a).heap.size=W.heap.size:=by
 intro a;induction a with
 |nil=>intro W p;rfl
 |cons v a ih=>intro W p;rw[aO,ih];simp
def bU.put(h:bU w g N)(a:List Value)(p:Nat)(c:p+a.length<=N):bU (aO w g p a) g N:=by
 refine⟨fun t b=>?_,fun t=>by rw[mQ];exact h.free t⟩;by_cases h1:t<p\/p+a.length<=t
 .rw[rO g a w p t h1];exact h.cell t b
 .have e:t=p+(t-p):=om;have:=az g a w p (t-p) om (by rw[<- e];exact h.cell t b);rw[<- e]at this;exact⟨_,this⟩
def bU.below(h:bU w g N)(hb:Bl w w')(hg:g<w.heap.size):bU w' g N:=
 ⟨fun t ht=>by obtain⟨v,hv⟩:=h.cell t ht;exact⟨v,(hb.cell (by exact hg)).trans hv⟩,fun t=>(hb.frozen (by exact hg)).trans (h.free t)⟩
def at3.keep{b:R3}(h:at3 w g o b)(vs:List Value)(p:Nat)(hp:o+3<=p\/p+vs.length<=o):at3 (aO w g p vs) g o b:=
 ⟨(rO g vs w p o om).trans h.c0,(rO g vs w p (o+1) om).trans h.c1,(rO g vs w p (o+2) om).trans h.c2⟩
def at3.new(h:bU w g N)(p:Nat)(hp:p+3<=N)(b:R3):at3 (aO w g p [bO b.e,I Zk b.m,I Zk b.k]) g p b:=
 ⟨az g _ w p 0 pQ (h.cell p om),az g _ w p 1 pQ (h.cell (p+1) om),az g _ w p 2 pQ (h.cell (p+2) om)⟩
def St(B:Nat)(w:Wd)(p:Wd->Prop):Prop:=∀W,(∀k,B<=k->k<w.heap.size->W.heap[k]?=w.heap[k]?)->p W
def St.now(h:St B w p):p w:=h w fun _ _ _=>rfl
def St.below(h:St B w p)(hb:Bl w w'):St B w' p:=fun W hW=>h W fun k h1 h2=>(hW k h1 (nL h2 hb.size)).trans (hb.block k h2)
def St.set(h:St B w p)(b j:Nat)(hb:b<B)(v:Value):St B (w.setCell ⟨b,j,nn⟩ v) p:=fun W hW=>h W fun k h1 h2=>(hW k h1 (by simpa using h2)).trans (Ql w ⟨b,j,nn⟩ k v (by show k≠b;omega))
def St.mono{B':Nat}(h:St B w p)(hB:B'<=B):St B' w p:=fun W hW=>h W fun k h1 h2=>hW k om h2
def cU{v:Value}(h:w.cell? ⟨g,o,nn⟩=sQ v)(a:W.heap[g]?=w.heap[g]?):W.cell? ⟨g,o,nn⟩=sQ v:=by
 simp only[World.cell?,a]at h ⊢;exact h
def at3.up{b:R3}(h:at3 w g o b)(he:W.heap[g]?=w.heap[g]?):at3 W g o b:=⟨cU h.c0 he,cU h.c1 he,cU h.c2 he⟩
def bU.F(h:bU w g N):ay w g N:=fun t ht=>⟨h.cell t ht,h.free t⟩
def mJ(w:Wd)(a:Option Addr)(n cap:Nat)(b:List R3)(h:bB w a n cap b)(hn:n<=1048576):ce 119 #[sL a n cap] w fun e w'=>∃g,e=rT (sL (be g) n n)/\St w.heap.size w' (fun W=>bB W (be g) n n b/\ay W g (n*3))/\(w.heap.size<=g/\g<w'.heap.size)/\Bl w w':=by
 have y:=h.len;have a0:=h.cap;by_cases L:b=[]
 .subst L;have X:n=0:=y;subst X;clear y h;go_enter func119,ntmps119;go_wp2_with(at_make;refine fX _ 45 147 _ 3 12 info147 underlying45 (by decide) rfl (.tmp 6) (.tmp 6) rfl _ 0 rfl rfl rfl om ?_;intro w1 u x C);go_loopw [4] (fun i wr=>i=I J 0/\Bl w wr/\w.heap.size<wr.heap.size) (fun _ _=>0);case atStart=>exact⟨rfl,(bW _ _).grown x (nR _) (by intro k e;cases e),C⟩
  case round=>
   obtain⟨rfl,f,v⟩:=hrel;go_wp2;go_ret;exact⟨_,rfl,fun _ _=>⟨⟨rfl,nR _,fun e=>Qj rfl e⟩,fun t Y=>Qj Y om⟩,⟨nR _,v⟩,f⟩
 .obtain⟨g,off,rfl,hc⟩:=h.cells L;have D:=hI y;have R:=hI hc;have H:=Qn w _ (hc 0 (List.length_pos_iff.2 L)).c0;clear h y hc;go_enter func119,ntmps119;go_wp2_with(at_make;refine fX _ 45 147 _ 3 12 info147 underlying45 (by decide) rfl (.tmp 6) (.tmp 6) rfl _ n rfl rfl rfl om ?_;intro w1 u x C);go_loopw [4] (fun i wr=>∃k:Nat,k<=n/\i=I J k/\bU wr w.heap.size (n*3)/\(∀j(l:j<k)(h:j<b.length),at3 wr w.heap.size (j*3) b[j])/\Bl w wr/\w.heap.size<wr.heap.size) (fun i _=>n-(intOf i).toNat);case atStart=>exact⟨0,nZ _,rfl,u,fun j l=>Qj l (nN _),(bW _ _).grown x (nR _) (by intro k e;cases e),C⟩
  case round=>
   clear u C x;obtain⟨k,hk,rfl,u,G,f,v⟩:=hrel;by_cases a1:k<n
   .have hkl:k<b.length:=by have:=D.o;omega
    have A:=R.o k hkl;have x0:=(f.cell (by exact H)).trans A.c0;have x1:=(f.cell (by exact H)).trans A.c1;have x2:=(f.cell (by exact H)).trans A.c2;have r:Hid (∀W,Bl wr W->bU W w.heap.size (n*3)/\(∀j(l:j<k)(h:j<b.length),at3 W w.heap.size (j*3) b[j])/\Bl w W/\w.heap.size<W.heap.size):=fun W c=>⟨u.below c v,fun j l K=>(G j l K).below c,f.trans (c.mono om),nL v c.size⟩
    clear u G f A;have O:k*3+3<=n*3:=om;have Q:Hid (∀W,bU W w.heap.size (n*3)->at3 (aO W w.heap.size (k*3) [bO b[k].e,I Zk b[k].m,I Zk b[k].k]) w.heap.size (k*3) b[k]):=fun W c=>at3.new c (k*3) O b[k];generalize S:b[k].e=E at*;generalize T:b[k].m=M at*;generalize U:b[k].k=k0 at*;clear S T U;go_wp2_with(go_at_call 166;refine(oV _ _ _ _).mono ?_;rintro o d ⟨rfl,s⟩;obtain⟨v0,z0⟩:=(r.o d s).1.cell (k*3) om;obtain⟨v1,z1⟩:=(r.o d s).1.cell (k*3+1) om;obtain⟨v2,z2⟩:=(r.o d s).1.cell (k*3+2) om;have f0:=(r.o d s).1.free (k*3);have f1:=(r.o d s).1.free (k*3+1);have f2:=(r.o d s).1.free (k*3+2));go_roundw;case rel=>
     obtain⟨P,Z,r3,r4⟩:=r.o d s;refine⟨k+1,om,by go_num,P.put [bO E,I Zk M,I Zk k0] (k*3) O,fun j l K=>?_,cJ _ _ (nR _) w [bO E,I Zk M,I Zk k0] d (k*3) r3,?_⟩
     .by_cases e:j=k
      .subst e;exact Q.o d P
      .exact (Z j om K).keep [bO E,I Zk M,I Zk k0] (k*3) (by simp;omega)
     .simpa using r4
    case measure=>simp[intOf];omega
   .go_wp2;go_ret;refine⟨_,rfl,fun W c=>⟨⟨D.o,nR _,fun _=>⟨_,0,rfl,fun j l=>?_⟩⟩,u.F.up (c _ (nR _) v)⟩,⟨nR _,v⟩,f⟩;have:=G j (by have:=D.o;omega) l;rw[qg];exact this.up (c _ (nR _) v)
end
section
variable{w w' W:World}{g o m c gd n cap M:Nat}{ao a:Option Addr}
structure R5 where
 e:Bool
 i:Nat
 r:Bool
 d:Int
 l:List Nat
structure at5(w:World)(g o:Nat)(b:R5)(ao:Option Addr)(m c:Nat):Prop where
 c0:w.cell? ⟨g,o,nn⟩=sQ (bO b.e)
 c1:w.cell? ⟨g,o+1,nn⟩=sQ (I Zk (b.i:Int))
 c2:w.cell? ⟨g,o+2,nn⟩=sQ (bO b.r)
 c3:w.cell? ⟨g,o+3,nn⟩=sQ (I J b.d)
 cs:w.cell? ⟨g,o+4,nn⟩=sQ (sL ao m c)
 dat:iB w ao m c b.l
structure cn(w:World)(a:Option Addr)(n cap:Nat)(bs:List R5):Prop where
 len:n=bs.length
 cap:n<=cap
 cells:bs≠[]->∃g off,a=sQ ⟨g,off,nn⟩/\∀j(h:j<bs.length),∃ao m c,at5 w g (off+j*5) bs[j] ao m c
def at5.below{b:R5}(h:at5 w g o b ao m c)(d:Bl w w'):at5 w' g o b ao m c:=by
 have e:=Qn w _ h.c0;exact⟨(d.cell (by exact e)).trans h.c0,(d.cell (by exact e)).trans h.c1,(d.cell (by exact e)).trans h.c2,(d.cell (by exact e)).trans h.c3,(d.cell (by exact e)).trans h.cs,h.dat.below d⟩
def cn.below{b:List R5}(h:cn w a n cap b)(f:Bl w w'):cn w' a n cap b:=by
 refine⟨h.len,h.cap,fun l=>?_⟩;obtain⟨g,off,d,i⟩:=h.cells l;exact⟨g,off,d,fun j k=>by obtain⟨ao,m,c,e⟩:=i j k;exact⟨ao,m,c,e.below f⟩⟩
def at5.up{b:R5}(h:at5 w g o b (be gd) m c)(he:W.heap[g]?=w.heap[g]?)(hd:W.heap[gd]?=w.heap[gd]?):at5 W g o b (be gd) m c:=
 ⟨cU h.c0 he,cU h.c1 he,cU h.c2 he,cU h.c3 he,cU h.cs he,h.dat.other hd⟩
def at5.keep{b:R5}(h:at5 w g o b (be gd) m c)(hne:gd≠g)(vs:List Value)(p:Nat)(hp:o+5<=p\/p+vs.length<=o):at5 (aO w g p vs) g o b (be gd) m c:=
 ⟨(rO g vs w p (o) om).trans h.c0,(rO g vs w p (o+1) om).trans h.c1,(rO g vs w p (o+2) om).trans h.c2,(rO g vs w p (o+3) om).trans h.c3,(rO g vs w p (o+4) om).trans h.cs,h.dat.other (aM g gd hne vs w p)⟩
def at5.new(h:bU w g M)(p:Nat)(hp:p+5<=M)(b:R5)(gd m:Nat)(hne:gd≠g)(hd:iB w (be gd) m m b.l):at5 (aO w g p [bO b.e,I Zk (b.i:Int),bO b.r,I J b.d,sL (be gd) m m]) g p b (be gd) m m:=
 ⟨az g _ w p 0 pQ (h.cell (p+0) om),az g _ w p 1 pQ (h.cell (p+1) om),az g _ w p 2 pQ (h.cell (p+2) om),az g _ w p 3 pQ (h.cell (p+3) om),az g _ w p 4 pQ (h.cell (p+4) om),hd.other (aM g gd hne _ w p)⟩
structure R8 where
 x:Int
 y:Int
 z:Int
 e:Bool
 i:Nat
 r:Bool
 d:Int
 l:List Nat
structure at8(w:World)(g o:Nat)(b:R8)(ao:Option Addr)(m c:Nat):Prop where
 c0:w.cell? ⟨g,o,nn⟩=sQ (I J b.x)
 c1:w.cell? ⟨g,o+1,nn⟩=sQ (I J b.y)
 c2:w.cell? ⟨g,o+2,nn⟩=sQ (I J b.z)
 c3:w.cell? ⟨g,o+3,nn⟩=sQ (bO b.e)
 c4:w.cell? ⟨g,o+4,nn⟩=sQ (I Zk (b.i:Int))
 c5:w.cell? ⟨g,o+5,nn⟩=sQ (bO b.r)
 c6:w.cell? ⟨g,o+6,nn⟩=sQ (I J b.d)
 cs:w.cell? ⟨g,o+7,nn⟩=sQ (sL ao m c)
 dat:iB w ao m c b.l
structure aP(w:World)(a:Option Addr)(n cap:Nat)(bs:List R8):Prop where
 len:n=bs.length
 cap:n<=cap
 cells:bs≠[]->∃g off,a=sQ ⟨g,off,nn⟩/\∀j(h:j<bs.length),∃ao m c,at8 w g (off+j*8) bs[j] ao m c
def at8.below{b:R8}(h:at8 w g o b ao m c)(d:Bl w w'):at8 w' g o b ao m c:=by
 have e:=Qn w _ h.c0;exact⟨(d.cell (by exact e)).trans h.c0,(d.cell (by exact e)).trans h.c1,(d.cell (by exact e)).trans h.c2,(d.cell (by exact e)).trans h.c3,(d.cell (by exact e)).trans h.c4,(d.cell (by exact e)).trans h.c5,(d.cell (by exact e)).trans h.c6,(d.cell (by exact e)).trans h.cs,h.dat.below d⟩
def aP.below{b:List R8}(h:aP w a n cap b)(f:Bl w w'):aP w' a n cap b:=by
 refine⟨h.len,h.cap,fun l=>?_⟩;obtain⟨g,off,d,i⟩:=h.cells l;exact⟨g,off,d,fun j k=>by obtain⟨ao,m,c,e⟩:=i j k;exact⟨ao,m,c,e.below f⟩⟩
def at8.up{b:R8}(h:at8 w g o b (be gd) m c)(he:W.heap[g]?=w.heap[g]?)(hd:W.heap[gd]?=w.heap[gd]?):at8 W g o b (be gd) m c:=
 ⟨cU h.c0 he,cU h.c1 he,cU h.c2 he,cU h.c3 he,cU h.c4 he,cU h.c5 he,cU h.c6 he,cU h.cs he,h.dat.other hd⟩
def at8.keep{b:R8}(h:at8 w g o b (be gd) m c)(hne:gd≠g)(vs:List Value)(p:Nat)(hp:o+8<=p\/p+vs.length<=o):at8 (aO w g p vs) g o b (be gd) m c:=
 ⟨(rO g vs w p (o) om).trans h.c0,(rO g vs w p (o+1) om).trans h.c1,(rO g vs w p (o+2) om).trans h.c2,(rO g vs w p (o+3) om).trans h.c3,(rO g vs w p (o+4) om).trans h.c4,(rO g vs w p (o+5) om).trans h.c5,(rO g vs w p (o+6) om).trans h.c6,(rO g vs w p (o+7) om).trans h.cs,h.dat.other (aM g gd hne vs w p)⟩
def at8.new(h:bU w g M)(p:Nat)(hp:p+8<=M)(b:R8)(gd m:Nat)(hne:gd≠g)(hd:iB w (be gd) m m b.l):at8 (aO w g p [I J b.x,I J b.y,I J b.z,bO b.e,I Zk (b.i:Int),bO b.r,I J b.d,sL (be gd) m m]) g p b (be gd) m m:=
 ⟨az g _ w p 0 pQ (h.cell (p+0) om),az g _ w p 1 pQ (h.cell (p+1) om),az g _ w p 2 pQ (h.cell (p+2) om),az g _ w p 3 pQ (h.cell (p+3) om),az g _ w p 4 pQ (h.cell (p+4) om),az g _ w p 5 pQ (h.cell (p+5) om),az g _ w p 6 pQ (h.cell (p+6) om),az g _ w p 7 pQ (h.cell (p+7) om),hd.other (aM g gd hne _ w p)⟩
structure wr5(B T:Nat)(W:World)(g n:Nat):Prop where
 row:ay W g (n*5)
 lo:B<=g
 hi:g<T
 dat:∀j,j<n->∃gd m,W.cell? ⟨g,j*5+4,nn⟩=sQ (sL (be gd) m m)/\ay W gd m/\gd≠g/\B<=gd/\gd<T
def info53:(Tp.info? 53).map (fun i=>(i.zero,i.size,i.bytes))=sQ (sQ (aG #[bO false,I Zk 0,bO false,I J 0,sL nn 0 0]),5,48):=kr
def oU(w:World)(a:Option Addr)(n cap:Nat)(b:List R5)(h:cn w a n cap b)(hn:n<=1048576)(hd:∀j(h:j<b.length),b[j].l.length<=1048576):ce 121 #[sL a n cap] w fun e w'=>∃g,e=rT (sL (be g) n n)/\St w.heap.size w' (fun W=>cn W (be g) n n b/\wr5 w.heap.size w'.heap.size W g n)/\Bl w w':=by
 have R:=h.len;have bi:=h.cap;by_cases X:b=[]
 .subst X;have a9:n=0:=R;subst a9;clear R h hd;go_enter func121,ntmps121;go_wp2_with(at_make;refine fX _ 47 53 _ 5 48 info53 underlying47 (by decide) rfl (.tmp 6) (.tmp 6) rfl _ 0 rfl rfl rfl om ?_;intro w1 C Q S);go_loopw [4] (fun i wr=>i=I J 0/\Bl w wr/\w.heap.size<wr.heap.size) (fun _ _=>0);case atStart=>exact⟨rfl,(bW _ _).grown Q (nR _) (by intro k e;cases e),S⟩
  case round=>
   obtain⟨rfl,v,B⟩:=hrel;go_wp2;go_ret;exact⟨_,rfl,fun _ _=>⟨⟨rfl,nR _,fun e=>Qj rfl e⟩,⟨fun t ht=>Qj ht om,nR _,B,fun j y=>Qj y (nN _)⟩⟩,v⟩
 .obtain⟨g,off,rfl,hc⟩:=h.cells X;have O:=hI R;have HC:=hI hc;have a1:=hI hd;have N:g<w.heap.size:=by obtain⟨_,_,_,L⟩:=hc 0 (List.length_pos_iff.2 X);exact Qn w _ L.c0
  clear h R hc hd;go_enter func121,ntmps121;go_wp2_with(at_make;refine fX _ 47 53 _ 5 48 info53 underlying47 (by decide) rfl (.tmp 6) (.tmp 6) rfl _ n rfl rfl rfl om ?_;intro w1 C Q S);go_loopw [4] (fun i wr=>∃k:Nat,k<=n/\i=I J k/\bU wr w.heap.size (n*5)/\(∀j(y:j<k)(h:j<b.length),∃gd m,(w.heap.size<gd/\gd<wr.heap.size)/\at5 wr w.heap.size (j*5) b[j] (be gd) m m/\ay wr gd m)/\Bl w wr/\w.heap.size<wr.heap.size) (fun i _=>n-(intOf i).toNat);case atStart=>exact⟨0,nZ _,rfl,C,fun j y=>Qj y (nN _),(bW _ _).grown Q (nR _) (by intro k e;cases e),S⟩
  case round=>
   clear C S Q;obtain⟨k,hk,rfl,C,P,v,B⟩:=hrel;by_cases bk:k<n
   .have hkl:k<b.length:=by have:=O.o;omega
    obtain⟨ao,f,c0,A⟩:=HC.o k hkl;have b4:=(v.cell (by exact N)).trans A.c0;have b5:=(v.cell (by exact N)).trans A.c1;have b6:=(v.cell (by exact N)).trans A.c2;have b7:=(v.cell (by exact N)).trans A.c3;have b8:=(v.cell (by exact N)).trans A.cs;have a8:f<=1048576:=by have:=a1.o k hkl;have:=A.dat.len;omega
    have HY:=hI (A.dat.below v);have u:Hid (∀W,Bl wr W->bU W w.heap.size (n*5)/\(∀j(y:j<k)(h:j<b.length),∃gd m,(w.heap.size<gd/\gd<W.heap.size)/\at5 W w.heap.size (j*5) b[j] (be gd) m m/\ay W gd m)/\Bl w W/\w.heap.size<W.heap.size):=fun W s=>⟨C.below s B,fun j y U=>by obtain⟨gd,m,h1,K,T⟩:=P j y U;exact⟨gd,m,⟨h1.1,nL h1.2 s.size⟩,K.below s,T.up (s.block _ h1.2)⟩,v.trans (s.mono om),nL B s.size⟩
    clear C P v A;have Z:k*5+5<=n*5:=om;have HB:Hid (∀W gd,gd≠w.heap.size->iB W (be gd) f f b[k].l->bU W w.heap.size (n*5)->at5 (aO W w.heap.size (k*5) [bO b[k].e,I Zk (b[k].i:Int),bO b[k].r,I J b[k].d,sL (be gd) f f]) w.heap.size (k*5) b[k] (be gd) f f):=fun W gd h1 K s=>at5.new s (k*5) Z b[k] gd f h1 K;generalize a4:b[k].e=E at*;generalize a5:b[k].i=G at*;generalize a6:b[k].r=fr at*;generalize a3:b[k].d=D at*;clear a4 a5 a6 a3;go_wp2_with(go_at_call 77;refine(km _ E G fr D ao f c0 b[k].l HY.o a8).mono ?_;rintro o p ⟨gd,rfl,a7,x,H,Y,a0⟩;have a2:Hid (ay p gd f):=a0;clear a0;obtain⟨ap,b9⟩:=(u.o p x).1.cell (k*5) om;have ac:=(u.o p x).1.free (k*5);obtain⟨aw,bb⟩:=(u.o p x).1.cell (k*5+1) om;have ad:=(u.o p x).1.free (k*5+1);obtain⟨b1,bc⟩:=(u.o p x).1.cell (k*5+2) om;have af:=(u.o p x).1.free (k*5+2);obtain⟨b2,bf⟩:=(u.o p x).1.cell (k*5+3) om;have ak:=(u.o p x).1.free (k*5+3);obtain⟨b3,bg⟩:=(u.o p x).1.cell (k*5+4) om;have am:=(u.o p x).1.free (k*5+4));go_roundw;case rel=>
     skip;skip;skip;obtain⟨r1,r2,r3,r4⟩:=u.o p x
     have hne:gd≠w.heap.size:=om;refine⟨k+1,om,by go_num,r1.put [bO E,I Zk (G:Int),bO fr,I J D,sL (be gd) f f] (k*5) Z,fun j y U=>?_,cJ _ _ (nR _) w [bO E,I Zk (G:Int),bO fr,I J D,sL (be gd) f f] p (k*5) r3,?_⟩
     .by_cases e:j=k
      .subst e;exact⟨gd,f,⟨om,by first|(rw[bS];exact Y)|simpa using Y⟩,HB.o p gd hne a7 r1,a2.o.up (aM w.heap.size gd hne [bO E,I Zk (G:Int),bO fr,I J D,sL (be gd) f f] p (j*5))⟩
      .obtain⟨gd',m',h1,K,T⟩:=r2 j om U;exact⟨gd',m',⟨h1.1,by first|(rw[bS];exact h1.2)|simpa using h1.2⟩,K.keep om [bO E,I Zk (G:Int),bO fr,I J D,sL (be gd) f f] (k*5) (by simp;omega),T.up (aM w.heap.size gd' om [bO E,I Zk (G:Int),bO fr,I J D,sL (be gd) f f] p (k*5))⟩
     .first|(rw[bS];exact r4)|simpa using r4
    case measure=>simp[intOf];omega
   .go_wp2;go_ret;refine⟨_,rfl,fun W s=>⟨⟨O.o,nR _,fun _=>⟨_,0,rfl,fun j y=>?_⟩⟩,⟨C.F.up (s _ (nR _) B),nR _,B,fun j y=>?_⟩⟩,v⟩
    .obtain⟨gd,m,H,L,_⟩:=P j (by have:=O.o;omega) y;rw[qg];exact⟨_,_,_,L.up (s _ (nR _) B) (s _ om H.2)⟩
    .obtain⟨gd,m,H,L,hrf⟩:=P j om (by have:=O.o;omega);exact⟨gd,m,(L.up (s _ (nR _) B) (s _ om H.2)).cs,hrf.up (s _ om H.2),om,om,H.2⟩
end
def aT(g:Nat):∀(a:List Value)(w:World)(p:Nat),w.setCells g p a=aO w g p a:=by
 intro a;induction a with
 |nil=>intro w p;rfl
 |cons v a ih=>intro w p;exact ih _ (p+1)
def bU.there{w:World}{g N:Nat}(h:bU w g N)(p n:Nat)(hp:p+n<=N):w.there g p n:=fun j hj=>by
 obtain⟨v,hv⟩:=h.cell (p+j) om;exact⟨by rw[hv];rfl,h.free _⟩
def mS(x y z:Int)(e:Bool)(i:Int)(r:Bool)(d:Int)(a:Option Addr)(n c:Nat):(#[I J x,I J y,I J z,bO e,I Zk i,bO r,I J d,sL a n c]:Array Value).all (·.oneCell')=true:=
 Qv (by simp[Value.oneCell'])
structure wr8(B T:Nat)(W:World)(g n:Nat):Prop where
 row:ay W g (n*8)
 lo:B<=g
 hi:g<T
 dat:∀j,j<n->∃gd m,W.cell? ⟨g,j*8+7,nn⟩=sQ (sL (be gd) m m)/\ay W gd m/\gd≠g/\B<=gd/\gd<T
def cK:(Tp.info? 114).map (·.size)=sQ 8:=kr
def i7:(Tp.info? 212).map (·.size)=sQ 8:=kr
def info212:(Tp.info? 212).map (fun i=>(i.zero,i.size,i.bytes))=sQ (sQ (aG #[I J 0,I J 0,I J 0,bO false,I Zk 0,bO false,I J 0,sL nn 0 0]),8,72):=kr
def info114:(Tp.info? 114).map (fun i=>(i.zero,i.size,i.bytes))=sQ (sQ (aG #[I J 0,I J 0,I J 0,bO false,I Zk 0,bO false,I J 0,sL nn 0 0]),8,72):=kr
def yA{F:FuncId}(w:World)(a:Option Addr)(n cap:Nat)(c:List R8)(h:aP w a n cap c)(hn:n<=1048576)(hd:∀j(h:j<c.length),c[j].l.length<=1048576)(hF:F=120\/F=122:=by decide):ce F #[sL a n cap] w fun e w'=>∃g,e=rT (sL (be g) n n)/\St w.heap.size w' (fun W=>aP W (be g) n n c/\wr8 w.heap.size w'.heap.size W g n)/\Bl w w':=by
 rcases hF with rfl|rfl;all_goals
  have U:=h.len;have bf:=h.cap;by_cases hl:c=[]
  .subst hl;have b3:n=0:=U;subst b3;clear U h hd;first|go_enter func120,ntmps120|go_enter func122,ntmps122
   go_wp2_with(at_make;(first|refine fX _ 46 114 _ 8 72 info114 underlying46 (by decide) rfl (.tmp 6) (.tmp 6) rfl _ 0 rfl rfl rfl om ?_|refine fX _ 48 212 _ 8 72 info212 underlying48 (by decide) rfl (.tmp 6) (.tmp 6) rfl _ 0 rfl rfl rfl om ?_);intro w1 M T X);go_loopw [4] (fun i wr=>i=I J 0/\Bl w wr/\w.heap.size<wr.heap.size) (fun _ _=>0);case atStart=>exact⟨rfl,(bW _ _).grown T (nR _) (by intro k e;cases e),X⟩
   case round=>
    obtain⟨rfl,s,B⟩:=hrel;go_wp2;go_ret;exact⟨_,rfl,fun _ _=>⟨⟨rfl,nR _,fun e=>Qj rfl e⟩,⟨fun t ht=>Qj ht om,nR _,B,fun j u=>Qj u (nN _)⟩⟩,s⟩
  .obtain⟨g,off,rfl,hc⟩:=h.cells hl;have R:=hI U;have HC:=hI hc;have a7:=hI hd;have A:g<w.heap.size:=by obtain⟨_,_,_,Q⟩:=hc 0 (List.length_pos_iff.2 hl);exact Qn w _ Q.c0
   clear h U hc hd;first|go_enter func120,ntmps120|go_enter func122,ntmps122
   go_wp2_with(at_make;(first|refine fX _ 46 114 _ 8 72 info114 underlying46 (by decide) rfl (.tmp 6) (.tmp 6) rfl _ n rfl rfl rfl om ?_|refine fX _ 48 212 _ 8 72 info212 underlying48 (by decide) rfl (.tmp 6) (.tmp 6) rfl _ n rfl rfl rfl om ?_);intro w1 M T X);go_loopw [4] (fun i wr=>∃k:Nat,k<=n/\i=I J k/\bU wr w.heap.size (n*8)/\(∀j(u:j<k)(h:j<c.length),∃b m,(w.heap.size<b/\b<wr.heap.size)/\at8 wr w.heap.size (j*8) c[j] (be b) m m/\ay wr b m)/\Bl w wr/\w.heap.size<wr.heap.size) (fun i _=>n-(intOf i).toNat);case atStart=>exact⟨0,nZ _,rfl,M,fun j u=>Qj u (nN _),(bW _ _).grown T (nR _) (by intro k e;cases e),X⟩
   case round=>
    clear M X T;obtain⟨k,hk,rfl,M,S,s,B⟩:=hrel;by_cases bg:k<n
    .have hkl:k<c.length:=by have:=R.o;omega
     obtain⟨ao,f,c0,v⟩:=HC.o k hkl;have b4:=(s.cell (by exact A)).trans v.c0;have b5:=(s.cell (by exact A)).trans v.c1;have b6:=(s.cell (by exact A)).trans v.c2;have b7:=(s.cell (by exact A)).trans v.c3;have b8:=(s.cell (by exact A)).trans v.c4;have b9:=(s.cell (by exact A)).trans v.c5;have bb:=(s.cell (by exact A)).trans v.c6;have bc:=(s.cell (by exact A)).trans v.cs;have b2:f<=1048576:=by have:=a7.o k hkl;have:=v.dat.len;omega
     have HY:=hI (v.dat.below s);have HD:Hid (∀W,Bl wr W->bU W w.heap.size (n*8)/\(∀j(u:j<k)(h:j<c.length),∃b m,(w.heap.size<b/\b<W.heap.size)/\at8 W w.heap.size (j*8) c[j] (be b) m m/\ay W b m)/\Bl w W/\w.heap.size<W.heap.size):=fun W p=>⟨M.below p B,fun j u a0=>by obtain⟨b,m,h1,O,Z⟩:=S j u a0;exact⟨b,m,⟨h1.1,nL h1.2 p.size⟩,O.below p,Z.up (p.block _ h1.2)⟩,s.trans (p.mono om),nL B p.size⟩
     clear M S s v;have a1:k*8+8<=n*8:=om;have HB:Hid (∀W b,b≠w.heap.size->iB W (be b) f f c[k].l->bU W w.heap.size (n*8)->at8 (aO W w.heap.size (k*8) [I J c[k].x,I J c[k].y,I J c[k].z,bO c[k].e,I Zk (c[k].i:Int),bO c[k].r,I J c[k].d,sL (be b) f f]) w.heap.size (k*8) c[k] (be b) f f):=fun W b h1 O p=>at8.new p (k*8) a1 c[k] b f h1 O;generalize am:c[k].x=H at*;generalize ap:c[k].y=K at*;generalize aw:c[k].z=L at*;generalize ad:c[k].e=E at*;generalize af:c[k].i=G at*;generalize ak:c[k].r=fr at*;generalize ac:c[k].d=D at*;clear am ap aw ad af ak ac;go_wp2_with(first|((first|go_at_call 167|go_at_call 168);refine(BA _ H K L E G fr D ao f c0 c[k].l HY.o b2).mono ?_;rintro o C ⟨b,rfl,b1,a3,N,a4,a5⟩;have a8:Hid (ay C b f):=a5;clear a5;have Y:=(HD.o C a3).1)|(refine Qo (P:=Tp) rfl _ (.tmp 21) (.tmp 20) rfl w.heap.size (k*8) #[I J H,I J K,I J L,bO E,I Zk (G:Int),bO fr,I J D,sL (be b) f f] rfl rfl (Y.there (k*8) 8 a1) (by first|exact cK|exact i7) (mS _ _ _ _ _ _ _ _ _ _) ?_;generalize a2:World.setCells C w.heap.size (k*8) _=w6;have a9:Hid (_=w6):=a2;clear a2));go_roundw;case rel=>
      have a6:=a9.o;rw[aT]at a6;subst a6;obtain⟨Y,r2,r3,r4⟩:=HD.o C a3;have hne:b≠w.heap.size:=om;refine⟨k+1,om,by go_num,Y.put [I J H,I J K,I J L,bO E,I Zk (G:Int),bO fr,I J D,sL (be b) f f] (k*8) a1,fun j u a0=>?_,cJ _ _ (nR _) w [I J H,I J K,I J L,bO E,I Zk (G:Int),bO fr,I J D,sL (be b) f f] C (k*8) r3,?_⟩
      .by_cases e:j=k
       .subst e;exact⟨b,f,⟨om,by first|(rw[bS];exact a4)|simpa using a4⟩,HB.o C b hne b1 Y,a8.o.up (aM w.heap.size b hne [I J H,I J K,I J L,bO E,I Zk (G:Int),bO fr,I J D,sL (be b) f f] C (j*8))⟩
       .obtain⟨gd',m',h1,O,Z⟩:=r2 j om a0;exact⟨gd',m',⟨h1.1,by first|(rw[bS];exact h1.2)|simpa using h1.2⟩,O.keep om [I J H,I J K,I J L,bO E,I Zk (G:Int),bO fr,I J D,sL (be b) f f] (k*8) (by simp;omega),Z.up (aM w.heap.size gd' om [I J H,I J K,I J L,bO E,I Zk (G:Int),bO fr,I J D,sL (be b) f f] C (k*8))⟩
      .first|(rw[bS];exact r4)|simpa using r4
     case measure=>simp[intOf];omega
    .go_wp2;go_ret;refine⟨_,rfl,fun W p=>⟨⟨R.o,nR _,fun _=>⟨_,0,rfl,fun j u=>?_⟩⟩,⟨M.F.up (p _ (nR _) B),nR _,B,fun j u=>?_⟩⟩,s⟩
     .obtain⟨b,m,N,Q,_⟩:=S j (by have:=R.o;omega) u;rw[qg];exact⟨_,_,_,Q.up (p _ (nR _) B) (p _ om N.2)⟩
     .obtain⟨b,m,N,Q,hrf⟩:=S j om (by have:=R.o;omega);exact⟨b,m,(Q.up (p _ (nR _) B) (p _ om N.2)).cs,hrf.up (p _ om N.2),om,om,N.2⟩
def oZ(w:World)(a:Option Addr)(n cap:Nat)(c:List R5)(h:cn w a n cap c)(m:Nat)(hm:m<=1048576)(hn:n<=9223372036854775807)(hd:∀j(h:j<c.length),c[j].l.length<=9223372036854775807):ce 96 #[sL a n cap,I J (m:Int)] w fun o w'=>∃z:Int,o=rT (I J z)/\Bl w w'/\(z= -1\/∃b:Nat,z=(b:Int)/\b<=m/\n<=m/\∀j(h:j<c.length),c[j].l.length<=m):=by
 have E:=h.len;by_cases U:n<=m
 .by_cases K:c=[]
  .subst K;have T:n=0:=E;subst T;clear E h hd;go_enter func96,ntmps96;go_wp2;go_loopw [1,5] (fun lf i wr=>i=I J 0/\lf=I J (m:Int)/\wr=w) (fun _ _ _=>0);case atStart=>exact⟨rfl,rfl,rfl⟩
   case round=>
    obtain⟨rfl,rfl,rfl⟩:=hrel;go_wp2;go_ret;exact⟨_,rfl,bW _ _,.inr ⟨m,rfl,nR _,om,fun j t=>by cases t⟩⟩
  .obtain⟨g,off,rfl,hc⟩:=h.cells K;have G:=hI E;have N:=hI hc;have O:=hI hd;have a8:¬(m:Int)-(n:Int)<0:=om;go_enter func96,ntmps96;go_wp2;go_loopw [1,5] (fun lf i wr=>∃k b:Nat,k<=n/\i=I J (k:Int)/\lf=I J (b:Int)/\b<=m/\Bl w wr/\∀j(t:j<k)(h:j<c.length),c[j].l.length<=m) (fun _ i _=>n-(intOf i).toNat);case atStart=>exact⟨0,m-n,nZ _,rfl,by go_num,om,bW _ _,fun j t=>Qj t (nN _)⟩
   case round=>
    obtain⟨k,b,hk,rfl,rfl,S,s,H⟩:=hrel;by_cases a7:k<n
    .have hkl:k<c.length:=by have:=G.o;omega
     obtain⟨u,f,v,p⟩:=N.o k hkl;have C:=Qn w _ p.c0;have Y:=(s.cell (by exact C)).trans p.c0;have Z:=(s.cell (by exact C)).trans p.c1;have a0:=(s.cell (by exact C)).trans p.c2;have a1:=(s.cell (by exact C)).trans p.c3;have a2:=(s.cell (by exact C)).trans p.cs;have M:f<=9223372036854775807:=by have:=O.o k hkl;have:=p.dat.len;omega
     have Q:=hI p.dat.len;have D:=hI s;have P:=hI H;generalize a4:c[k].e=y at*;generalize a5:c[k].i=A at*;generalize a6:c[k].r=B at*;generalize a3:c[k].d=x at*;by_cases L:(f:Int)<=(b:Int)
     .have HE:Hid (∀W,ce 41 #[frV y A B x u f v,I J (b:Int)] W fun o w'=>o=rT (I J ((b:Int)-(f:Int)))/\W.alloc (frC y A B x u f v 35)=w'):=by
       intro W;have:=dC W y A B x u f v b M om;rw[QW L]at this;exact this
      go_wp2_with(go_at_call 41;refine(HE.o _).mono ?_;rintro o X ⟨rfl,rfl⟩);go_roundw;case rel=>
       refine⟨k+1,b-f,om,by go_num,by go_num,om,D.o.trans (Zw.mono D.o.size),fun j t R=>?_⟩;by_cases e:j=k
       .subst e;have:=Q.o;omega
       .exact P.o j om R
      case measure=>simp[intOf];omega
     .have HE:Hid (∀W,ce 41 #[frV y A B x u f v,I J (b:Int)] W fun o w'=>o=rT (I J (-1))/\W.alloc (frC y A B x u f v 35)=w'):=by
       intro W;have:=dC W y A B x u f v b M om;rw[QV L]at this;exact this
      go_wp2_with(go_at_call 41;refine(HE.o _).mono ?_;rintro o X ⟨rfl,rfl⟩);go_ret;exact⟨-1,rfl,D.o.trans (Zw.mono D.o.size),.inl rfl⟩
    .go_wp2;go_ret;exact⟨_,rfl,s,.inr ⟨b,rfl,S,U,fun j t=>H j (by have:=G.o;omega) t⟩⟩
 .have hneg:(m:Int)-(n:Int)<0:=om;go_enter func96,ntmps96;go_wp2;go_ret;exact⟨-1,rfl,bW _ _,.inl rfl⟩
def yH{F:FuncId}(w:World)(a:Option Addr)(n cap:Nat)(b:List R8)(h:aP w a n cap b)(m:Nat)(hm:m<=1048576)(hn:n<=9223372036854775807)(hd:∀j(h:j<b.length),b[j].l.length<=9223372036854775807)(hF:F=95\/F=97:=by decide):ce F #[sL a n cap,I J (m:Int)] w fun o w'=>∃z:Int,o=rT (I J z)/\Bl w w'/\(z= -1\/∃c:Nat,z=(c:Int)/\c<=m/\n<=m/\∀j(h:j<b.length),b[j].l.length<=m):=by
 rcases hF with rfl|rfl;all_goals
  have B:=h.len;by_cases a1:n<=m
  .by_cases Q:b=[]
   .subst Q;have a0:n=0:=B;subst a0;clear B h hd;first|go_enter func95,ntmps95|go_enter func97,ntmps97
    go_wp2;go_loopw [1,5] (fun lf i wr=>i=I J 0/\lf=I J (m:Int)/\wr=w) (fun _ _ _=>0);case atStart=>exact⟨rfl,rfl,rfl⟩
    case round=>
     obtain⟨rfl,rfl,rfl⟩:=hrel;go_wp2;go_ret;exact⟨_,rfl,bW _ _,.inr ⟨m,rfl,nR _,om,fun j t=>by cases t⟩⟩
   .obtain⟨g,off,rfl,hc⟩:=h.cells Q;have C:=hI B;have T:=hI hc;have U:=hI hd;have b1:¬(m:Int)-(n:Int)<0:=om;first|go_enter func95,ntmps95|go_enter func97,ntmps97
    go_wp2;go_loopw [1,5] (fun lf i wr=>∃k c:Nat,k<=n/\i=I J (k:Int)/\lf=I J (c:Int)/\c<=m/\Bl w wr/\∀j(t:j<k)(h:j<b.length),b[j].l.length<=m) (fun _ i _=>n-(intOf i).toNat);case atStart=>exact⟨0,m-n,nZ _,rfl,by go_num,om,bW _ _,fun j t=>Qj t (nN _)⟩
    case round=>
     obtain⟨k,c,hk,rfl,rfl,Z,p,P⟩:=hrel;by_cases aw:k<n
     .have hkl:k<b.length:=by have:=C.o;omega
      obtain⟨D,u,E,f⟩:=T.o k hkl;have s:=Qn w _ f.c0;have a2:=(p.cell (by exact s)).trans f.c0;have a3:=(p.cell (by exact s)).trans f.c1;have a4:=(p.cell (by exact s)).trans f.c2;have a5:=(p.cell (by exact s)).trans f.c3;have a6:=(p.cell (by exact s)).trans f.c4;have a7:=(p.cell (by exact s)).trans f.c5;have a8:=(p.cell (by exact s)).trans f.c6;have a9:=(p.cell (by exact s)).trans f.cs;have S:u<=9223372036854775807:=by have:=U.o k hkl;have:=f.dat.len;omega
      have X:=hI f.dat.len;have v:=hI p;have W:=hI P;generalize am:b[k].x=M at*;generalize ao:b[k].y=N at*;generalize ap:b[k].z=O at*;generalize ad:b[k].e=H at*;generalize af:b[k].i=K at*;generalize ak:b[k].r=L at*;generalize ac:b[k].d=G at*;by_cases R:(u:Int)<=(c:Int)
      .have hnz2:¬(c:Int)-(u:Int)<0:=om;go_wp2_with((first|go_at_call 157|go_at_call 158);refine(vn _ M N O H K L G D u E c S om).mono ?_;rw[QW R];rintro o w5 ⟨rfl,A⟩);go_roundw;case rel=>
        refine⟨k+1,c-u,om,by go_num,by go_num,om,v.o.trans (A.mono v.o.size),fun j t Y=>?_⟩;by_cases e:j=k
        .subst e;have:=X.o;omega
        .exact W.o j om Y
       case measure=>simp[intOf];omega
      .go_wp2_with ((first|go_at_call 157|go_at_call 158);refine(vn _ M N O H K L G D u E c S om).mono ?_;rw[QV R];rintro o w5 ⟨rfl,A⟩);go_ret;exact⟨-1,rfl,v.o.trans (A.mono v.o.size),.inl rfl⟩
     .go_wp2;go_ret;exact⟨_,rfl,p,.inr ⟨c,rfl,Z,a1,fun j t=>P j (by have:=C.o;omega) t⟩⟩
  .have hneg:(m:Int)-(n:Int)<0:=om;first|go_enter func95,ntmps95|go_enter func97,ntmps97
   go_wp2;go_ret;exact⟨-1,rfl,bW _ _,.inl rfl⟩
def i6(w:World)(a:Option Addr)(n cap:Nat)(m:Nat)(c:n<=9223372036854775807)(b:m<=1048576):ce 94 #[sL a n cap,I J m] w fun o w'=>o=rT (I J (if(n:Int)<=(m:Int)then(m:Int)-(n:Int)else -1))/\w=w':=by
 by_cases h:(n:Int)<=(m:Int)
 .rw[QW h];go_enter func94,ntmps94;go_wp2;go_ret;exact⟨rfl,rfl⟩
 .rw[QV h];go_enter func94,ntmps94;go_wp2;go_ret;exact⟨rfl,rfl⟩
section
variable{w w' X:World}
structure Ho where
 c0:Int
 c1:Int
 c2:Int
 c3:Int
 fs:List R3
 bx:List R8
 ff:List R5
 qu:List R8
 lo:Int
 st:Int
structure Sl where
 a1:Option Addr
 n1:Nat
 k1:Nat
 a2:Option Addr
 n2:Nat
 k2:Nat
 a3:Option Addr
 n3:Nat
 k3:Nat
 a4:Option Addr
 n4:Nat
 k4:Nat
structure bj(w:World)(H:Ho)(s:Sl):Prop where
 fs:bB w s.a1 s.n1 s.k1 H.fs
 bx:aP w s.a2 s.n2 s.k2 H.bx
 ff:cn w s.a3 s.n3 s.k3 H.ff
 qu:aP w s.a4 s.n4 s.k4 H.qu
def bj.below{H:Ho}{s:Sl}(h:bj w H s)(hb:Bl w w'):bj w' H s:=⟨h.fs.below hb,h.bx.below hb,h.ff.below hb,h.qu.below hb⟩
structure Ho.le(H:Ho)(m:Nat):Prop where
 fs:H.fs.length<=m
 bx:H.bx.length<=m
 ff:H.ff.length<=m
 qu:H.qu.length<=m
 bd:∀j(h:j<H.bx.length),H.bx[j].l.length<=m
 fd:∀j(h:j<H.ff.length),H.ff[j].l.length<=m
 qd:∀j(h:j<H.qu.length),H.qu[j].l.length<=m
abbrev hoV(H:Ho)(s:Sl):Value:=aG #[I J H.c0,I J H.c1,I J H.c2,I J H.c3,sL s.a1 s.n1 s.k1,sL s.a2 s.n2 s.k2,sL s.a3 s.n3 s.k3,sL s.a4 s.n4 s.k4,I J H.lo,I J H.st]
structure wt(b:Nat)(X w':World):Prop where
 cp:∀o,w'.cell? ⟨b,o,nn⟩=X.cell? ⟨b,o,nn⟩
 cr:∀o,w'.cell? ⟨b+1,o,nn⟩=X.cell? ⟨b+1,o,nn⟩
 co:∀o,w'.cell? ⟨b+1+1,o,nn⟩=X.cell? ⟨b+1+1,o,nn⟩
 fr:∀o,w'.frozen? ⟨b+1,o,nn⟩=X.frozen? ⟨b+1,o,nn⟩
 fo:∀o,w'.frozen? ⟨b+1+1,o,nn⟩=X.frozen? ⟨b+1+1,o,nn⟩
def vN{b:Nat}(hb:Bl X w')(hz:b+3<=X.heap.size):wt b X w':=
 ⟨fun o=>hb.cell (p:=⟨b,o,nn⟩) (by show b<_;omega),fun o=>hb.cell (p:=⟨b+1,o,nn⟩) (by show b+1<_;omega),fun o=>hb.cell (p:=⟨b+1+1,o,nn⟩) (by show b+1+1<_;omega),fun o=>hb.frozen (p:=⟨b+1,o,nn⟩) (by show b+1<_;omega),fun o=>hb.frozen (p:=⟨b+1+1,o,nn⟩) (by show b+1+1<_;omega)⟩
def uU(d:Bl w X)(f:w.heap.size+3<=X.heap.size){a:Option Addr}{n cap:Nat}{b:List R3}(h:bB w a n cap b)(j:b.length<=1048576):ce 119 #[sL a n cap] X fun e w'=>∃g,e=rT (sL (be g) n n)/\St (w.heap.size+3) w' (fun W=>bB W (be g) n n b/\ay W g (n*3))/\(w.heap.size<=g/\g<w'.heap.size)/\Bl X w'/\Bl w w'/\w.heap.size+3<=w'.heap.size/\wt w.heap.size X w':=by
 refine(mJ X a n cap b (h.below d) (by have:=h.len;omega)).mono ?_;rintro e w' ⟨g,rfl,h1,i,c⟩;exact⟨g,rfl,h1.mono f,⟨nT d.size i.1,i.2⟩,c,d.trans (c.mono d.size),nT f c.size,vN c f⟩
end
section
variable{x N:Nat}{w:World}
def ay.setCell(h:ay w x N)(p:Addr)(v:Value):ay (w.setCell p v) x N:=fun t ht=>by
 obtain⟨⟨u,hu⟩,hf⟩:=h t ht;refine⟨?_,by rw[QL];exact hf⟩;by_cases e:(⟨x,t,none⟩:Addr)=p
 .subst e;exact⟨v,QD _ _ _ hu⟩
 .exact⟨u,by rw[Qr _ _ _ _ (fun hh=>e hh.symm)];exact hu⟩
def ay.setRow(g:Nat):∀(a:List Value)(w:World)(p:Nat),ay w x N->ay (aO w g p a) x N:=by
 intro a;induction a with
 |nil=>intro w p h;exact h
 |cons v a ih=>intro w p h;exact ih _ (p+1) (h.setCell _ v)
def ay.le{M:Nat}(h:ay w x N)(hM:M<=N):ay w x M:=fun t ht=>h t om
def mkB(W:World)(b m C:Nat):Prop:=∀t,t<m->W.cell? ⟨b,t,none⟩=some (I .u8 (((C+t)%256:Nat):Int))
def mX(w:World)(b m cap C:Nat)(n:ay w b m)(M:m<=cap)(P:m<=1048576)(hC:C<=10000000000000000):ce 151 #[sL (be b) m cap,I J (C:Int)] w fun o w'=>o=rT (I J ((C+m:Nat):Int))/\mkB w' b m C/\(∀x N,ay w x N->ay w' x N)/\(∀x,x≠b->w'.heap[x]?=w.heap[x]?)/\w'.heap.size=w.heap.size/\Below b w w':=by
 have u:=hI n;clear n;go_enter func151,ntmps151;go_wp2;go_loopw [1,5] (fun B i wr=>∃k:Nat,k<=m/\i=I J (k:Int)/\B=I J ((C+k:Nat):Int)/\mkB wr b k C/\(∀x N,ay w x N->ay wr x N)/\(∀x,x≠b->wr.heap[x]?=w.heap[x]?)/\wr.heap.size=w.heap.size/\Below b w wr) (fun _ i _=>m-(intOf i).toNat);case atStart=>exact⟨0,nZ _,rfl,by go_num,fun j y=>Qj y (nN _),fun _ _ h=>h,fun _ _=>rfl,rfl,bW _ _⟩
 case round=>
  obtain⟨k,O,rfl,rfl,f,c,g,l,d⟩:=hrel;by_cases A:k<m
  .obtain⟨⟨v0,z0⟩,f0⟩:=(c b m u.o) k A;have r:Hid (mkB wr b k C/\(∀x N,ay w x N->ay wr x N)/\(∀x,x≠b->wr.heap[x]?=w.heap[x]?)/\wr.heap.size=w.heap.size/\Below b w wr):=⟨f,c,g,l,d⟩
   clear f c g l d;generalize a:C+k=D at*;have s:=hI a;have L:D<=20000000000000000:=om;clear a;go_wp2;obtain⟨E,G,H,K,r5⟩:=r.o;have a:=s.o;refine⟨⟨k+1,om,by go_num,by rw[show C+(k+1)=D+1 by omega];go_num,fun t Q=>?_,fun x N h=>(G x N h).setCell _ _,fun x p=>(Ql _ _ x _ p).trans (H x p),by simpa using K,r5.setCell (nR _) _⟩,by simp[intOf];omega⟩;by_cases e:t=k
   .subst e;rw[QD _ _ _ z0,a];congr 2
   .rw[Qr _ _ _ _ (by intro v;exact e (by simpa using v.symm))];exact E t om
  .have hkn:k=m:=om;subst hkn;go_wp2;go_ret;exact⟨rfl,f,c,g,l,d⟩
def mV(w:World)(cap C:Nat):ce 151 #[sL none 0 cap,I J (C:Int)] w fun o w'=>o=rT (I J (C:Int))/\w'=w:=by
 go_enter func151,ntmps151;go_wp2;go_loopw [1,5] (fun a i wr=>i=I J 0/\a=I J (C:Int)/\wr=w) (fun _ _ _=>0);case atStart=>exact⟨rfl,rfl,rfl⟩
 case round=>
  obtain⟨rfl,rfl,rfl⟩:=hrel;go_wp2;go_ret;exact⟨rfl,rfl⟩
def nh(w:World)(cap C:Nat):ce 156 #[sL none 0 cap,I J (C:Int)] w fun o w'=>o=rT (I J (C:Int))/\w'=w:=by
 go_enter func156,ntmps156;go_wp2;go_loopw [1,5] (fun a i wr=>i=I J 0/\a=I J (C:Int)/\wr=w) (fun _ _ _=>0);case atStart=>exact⟨rfl,rfl,rfl⟩
 case round=>
  obtain⟨rfl,rfl,rfl⟩:=hrel;go_wp2;go_ret;exact⟨rfl,rfl⟩
def nj(w:World)(b m cap C:Nat)(c:mkB w b m C)(j:m<=cap)(n:m<=1048576)(hC:C<=10000000000000000):ce 156 #[sL (be b) m cap,I J (C:Int)] w fun o w'=>o=rT (I J ((C+m:Nat):Int))/\w'=w:=by
 have e:=hI c;clear c;go_enter func156,ntmps156;go_wp2;go_loopw [1,5] (fun g i wr=>∃k:Nat,k<=m/\i=I J (k:Int)/\g=I J ((C+k:Nat):Int)/\wr=w) (fun _ i _=>m-(intOf i).toNat);case atStart=>exact⟨0,nZ _,rfl,by go_num,rfl⟩
 case round=>
  obtain⟨k,l,rfl,rfl,rfl⟩:=hrel;by_cases f:k<m
  .have z0:=e.o k f;generalize a:C+k=D at*;have d:=hI a;have h:D<=20000000000000000:=om;clear a;go_wp2;refine⟨⟨k+1,om,by go_num,by rw[show C+(k+1)=D+1 by have:=d.o;omega];go_num,trivial⟩,by simp[intOf];omega⟩
  .have hkn:k=m:=om;subst hkn;go_wp2;go_ret;exact⟨rfl,rfl⟩
end
section
variable{W W':Wd}{g o C:Nat}
abbrev Hd:=Option Addr × Nat × Nat
def hd(W:Wd)(g:Nat)(h:Hd):Prop:=h.2.1<=1048576/\h.2.1<=h.2.2/\((h.1=nn/\h.2.1=0)\/∃b,h.1=be b/\b≠g/\ay W b h.2.1)
def hd.up{h:Hd}(H:hd W g h)(i:∀x N,ay W x N->ay W' x N):hd W' g h:=by
 obtain⟨h1,c,a⟩:=H;refine⟨h1,c,?_⟩;rcases a with a|⟨b,e,f,d⟩
 .exact qp a
 .exact qt ⟨b,e,f,i _ _ d⟩
def dst(hs:Nat->Hd)(n:Nat):Prop:=∀i j,i<j->j<n->∀b,(hs i).1=be b->(hs j).1≠sQ ⟨b,0,nn⟩
def abv(B:Nat)(hs:Nat->Hd)(n:Nat):Prop:=∀j,j<n->∀b,(hs j).1=be b->B<=b
def Ac(B:Nat)(W:Wd)(g:Nat)(a:Option Addr)(m c C:Nat)(H:hd W g (a,m,c))(hB:∀b,a=be b->B<=b)(hC:C<=10000000000000000):ce 151 #[sL a m c,I J (C:Int)] W fun o w'=>o=rT (I J ((C+m:Nat):Int))/\(∀b,a=be b->mkB w' b m C)/\(∀x N,ay W x N->ay w' x N)/\(∀x,a≠sQ ⟨x,0,nn⟩->w'.heap[x]?=W.heap[x]?)/\w'.heap.size=W.heap.size/\Below B W w':=by
 obtain⟨h1,f,⟨e,j⟩|⟨b,e,u,i⟩⟩:=H
 .simp only at e j;subst e;subst j;refine(mV W c C).mono ?_;rintro o w' ⟨rfl,rfl⟩;exact⟨rfl,fun b d=>Qj d pQ,fun _ _ h=>h,fun _ _=>rfl,rfl,bW _ _⟩
 .simp only at e i h1 f;subst e;refine(mX W b m c C i f h1 hC).mono ?_;rintro o w' ⟨rfl,l,n,p,r,s⟩;exact⟨rfl,fun t d=>by cases d;exact l,n,fun x k=>p x (fun e=>k (by rw[e])),r,s.mono (hB b rfl)⟩
def Ax(W:Wd)(g:Nat)(a:Option Addr)(m c C:Nat)(H:hd W g (a,m,c))(i:∀b,a=be b->mkB W b m C)(hC:C<=10000000000000000):ce 156 #[sL a m c,I J (C:Int)] W fun o w'=>o=rT (I J ((C+m:Nat):Int))/\w'=W:=by
 obtain⟨h1,d,⟨e,f⟩|⟨b,e,j,h⟩⟩:=H
 .simp only at e f;subst e;subst f;exact(nh W c C)
 .simp only at e h h1 d;subst e;exact nj W b m c C (i b rfl) d h1 hC
structure sh8(W:Wd)(g n:Nat)(hs:Nat->Hd):Prop where
 row:ay W g (n*8)
 dat:∀j,j<n->W.cell? ⟨g,j*8+7,nn⟩=sQ (sL (hs j).1 (hs j).2.1 (hs j).2.2)/\hd W g (hs j)
def cn8(c:Nat)(hs:Nat->Hd):Nat->Nat
 |0=>c
 |j+1=>cn8 c hs j+7+(hs j).2.1
def rj(c n:Nat)(hs:Nat->Hd)(h:∀j,j<n->(hs j).2.1<=1048576):∀j,j<=n->cn8 c hs j<=c+j*1048583:=by
 intro j;induction j with
 |zero=>intro _;exact nR _
 |succ j ih=>
  intro b;have h1:=ih om;have a:=h j om;simp only[cn8];omega
def m8w(C:Nat):List Value:=[Value.int .i64 (C:Int),Value.int .i64 ((C:Int)+1),Value.int .i64 ((C:Int)+1+1),Value.bool ((C:Int)%3==0),Value.int .u32 (((C:Int)+1+1+1+1)%4294967296),Value.bool (((C:Int)+5)%3==0),Value.int .i64 ((C:Int)+1+1+1+1+1+1)]
structure mk8(W:Wd)(g o C:Nat)(h:Hd):Prop where
 row:∀t(ht:t<7),W.cell? ⟨g,o+t,nn⟩=sQ ((m8w C)[t]'(by simpa[m8w]using ht))
 dat:∀b,h.1=be b->mkB W b h.2.1 (C+7)
def mk8.up{h:Hd}(H:mk8 W g o C h)(hg:W'.heap[g]?=W.heap[g]?)(hb:∀b,h.1=be b->W'.heap[b]?=W.heap[b]?):mk8 W' g o C h:=
 ⟨fun t ht=>cU (H.row t ht) hg,fun b e t ht=>cU (H.dat b e t ht) (hb b e)⟩
structure sh5(W:Wd)(g n:Nat)(hs:Nat->Hd):Prop where
 row:ay W g (n*5)
 dat:∀j,j<n->W.cell? ⟨g,j*5+4,nn⟩=sQ (sL (hs j).1 (hs j).2.1 (hs j).2.2)/\hd W g (hs j)
def cn5(c:Nat)(hs:Nat->Hd):Nat->Nat
 |0=>c
 |j+1=>cn5 c hs j+4+(hs j).2.1
def uP(c n:Nat)(hs:Nat->Hd)(h:∀j,j<n->(hs j).2.1<=1048576):∀j,j<=n->cn5 c hs j<=c+j*1048583:=by
 intro j;induction j with
 |zero=>intro _;exact nR _
 |succ j ih=>
  intro b;have h1:=ih om;have a:=h j om;simp only[cn5];omega
def m5w(C:Nat):List Value:=[Value.bool ((C:Int)%3==0),Value.int .u32 (((C:Int)+1)%4294967296),Value.bool (((C:Int)+2)%3==0),Value.int .i64 ((C:Int)+1+1+1)]
structure mk5(W:Wd)(g o C:Nat)(h:Hd):Prop where
 row:∀t(ht:t<4),W.cell? ⟨g,o+t,nn⟩=sQ ((m5w C)[t]'(by simpa[m5w]using ht))
 dat:∀b,h.1=be b->mkB W b h.2.1 (C+4)
def mk5.up{h:Hd}(H:mk5 W g o C h)(hg:W'.heap[g]?=W.heap[g]?)(hb:∀b,h.1=be b->W'.heap[b]?=W.heap[b]?):mk5 W' g o C h:=
 ⟨fun t ht=>cU (H.row t ht) hg,fun b e t ht=>cU (H.dat b e t ht) (hb b e)⟩
def uh{F:FuncId}(B:Nat)(w:Wd)(g n cap c:Nat)(hs:Nat->Hd)(h:sh8 w g n hs)(a8:n<=cap)(hn:n<=1048576)(hc:c<=20000000000000)(hB:B<=g)(X:abv B hs n)(hF:F=148\/F=150:=by decide):ce F #[sL (be g) n cap,I J (c:Int)] w fun o w'=>o=rT (I J (cn8 c hs n:Int))/\(dst hs n->∀j,j<n->mk8 w' g (j*8) (cn8 c hs j) (hs j))/\sh8 w' g n hs/\(∀x N,ay w x N->ay w' x N)/\(∀x,x≠g->(∀j,j<n->(hs j).1≠sQ ⟨x,0,nn⟩)->w'.heap[x]?=w.heap[x]?)/\w'.heap.size=w.heap.size/\Below B w w':=by
 rcases hF with rfl|rfl;all_goals
  have a3:=hI h;have a0:=hI X;have a2:=hI (rj c n hs (fun j l=>(h.dat j l).2.1));clear h X;first|go_enter func148,ntmps148|go_enter func150,ntmps150
  go_wp2;go_loopw [1,5] (fun kk i wr=>∃k:Nat,k<=n/\i=I J (k:Int)/\kk=I J (cn8 c hs k:Int)/\(dst hs n->∀j,j<k->mk8 wr g (j*8) (cn8 c hs j) (hs j))/\sh8 wr g n hs/\(∀x N,ay w x N->ay wr x N)/\(∀x,x≠g->(∀j,j<n->(hs j).1≠sQ ⟨x,0,nn⟩)->wr.heap[x]?=w.heap[x]?)/\wr.heap.size=w.heap.size/\Below B w wr) (fun _ i _=>n-(intOf i).toNat);case atStart=>exact⟨0,nZ _,rfl,rfl,fun _ j l=>Qj l (nN _),a3.o,fun _ _ h=>h,fun _ _ _=>rfl,rfl,bW _ _⟩
  case round=>
   obtain⟨k,hk,rfl,rfl,K,d,P,M,Q,f⟩:=hrel;by_cases y:k<n
   .have hkn:k*8+8<=n*8:=om;obtain⟨⟨v0,z0⟩,f0⟩:=d.row (k*8) om;obtain⟨⟨v1,z1⟩,f1⟩:=d.row (k*8+1) om;obtain⟨⟨v2,z2⟩,f2⟩:=d.row (k*8+2) om;obtain⟨⟨v3,z3⟩,f3⟩:=d.row (k*8+3) om;obtain⟨⟨v4,z4⟩,f4⟩:=d.row (k*8+4) om;obtain⟨⟨v5,z5⟩,f5⟩:=d.row (k*8+5) om;obtain⟨⟨v6,z6⟩,f6⟩:=d.row (k*8+6) om;obtain⟨Z,u⟩:=d.dat k y;have HD:Hid ((dst hs n->∀j,j<k->mk8 wr g (j*8) (cn8 c hs j) (hs j))/\sh8 wr g n hs/\(∀x N,ay w x N->ay wr x N)/\(∀x,x≠g->(∀j,j<n->(hs j).1≠sQ ⟨x,0,nn⟩)->wr.heap[x]?=w.heap[x]?)/\wr.heap.size=w.heap.size/\Below B w wr):=⟨K,d,P,M,Q,f⟩
    clear K d P M Q f;have T:Hid (cn8 c hs (k+1)=cn8 c hs k+7+(hs k).2.1):=rfl;have a7:cn8 c hs k<=30000000000000:=by have:=a2.o k hk;omega
    generalize hC:cn8 c hs k=C at*;have HC:=hI hC;clear hC;have S:=hI (a0.o k y);obtain⟨t,p⟩:∃t,hs k=t:=⟨_,rfl⟩
    have HT:=hI p;rw[p]at Z u T S;clear p;obtain⟨a,m,U⟩:=t;simp only at Z;have hm:m<=1048576:=u.1;have e3:((C:Int)+1+1+1).tmod 3=(((C+3)%3:Nat):Int):=by rw[QZ om];omega
    have e5:((C:Int)+1+1+1+1+1).tmod 3=(((C+5)%3:Nat):Int):=by rw[QZ om];omega
    have a1:Hid (∀W,(∀x N,ay wr x N->ay W x N)->ce 151 #[sL a m U,I J ((C:Int)+1+1+1+1+1+1+1)] W fun o w'=>o=rT (I J ((C+7+m:Nat):Int))/\(∀b,a=be b->mkB w' b m (C+7))/\(∀x N,ay W x N->ay w' x N)/\(∀x,a≠sQ ⟨x,0,nn⟩->w'.heap[x]?=W.heap[x]?)/\w'.heap.size=W.heap.size/\Below B W w'):=fun W hW=>by
     have:=Ac B W g a m U (C+7) (u.up hW) S.o om;have e:(((C+7:Nat)):Int)=(C:Int)+1+1+1+1+1+1+1:=om;rw[e]at this;exact this
    have HH:=hI u;clear u;go_wp2_with(go_at_call 151;refine(a1.o _ (fun x N h=>h.setRow g (m8w C) wr (k*8))).mono ?_;rintro o s ⟨rfl,A,D,r,E,G⟩;have HQ:Hid ((∀b,a=be b->mkB s b m (C+7))/\(∀x N,ay (aO wr g (k*8) (m8w C)) x N->ay s x N)/\(∀x,a≠sQ ⟨x,0,nn⟩->s.heap[x]?=(aO wr g (k*8) (m8w C)).heap[x]?)/\s.heap.size=(aO wr g (k*8) (m8w C)).heap.size/\Below B (aO wr g (k*8) (m8w C)) s):=⟨A,D,r,E,G⟩;clear A D r E G);obtain⟨A,D,r,E,G⟩:=HQ.o;obtain⟨r1,v,r2,r3,r4,r5⟩:=HD.o;have H:=HT.o;have hC:=HC.o;have hl:(m8w C).length=7:=rfl;have a4:a≠sQ ⟨g,0,nn⟩:=by
     rcases HH.o.2.2 with⟨e,_⟩|⟨b,e,hne,_⟩
     .intro h;rw[h]at e;cases e
     .intro h;rw[h]at e;cases e;exact hne rfl
    have L:=r g a4;have O:∀x N,ay wr x N->ay s x N:=fun x N h=>D x N (h.setRow g (m8w C) wr (k*8));refine⟨⟨k+1,om,by go_num,by rw[T.o];congr 1,fun hd j l=>?_,⟨O _ _ v.row,fun j l=>⟨cU ((rO g (m8w C) wr (k*8) (j*8+7) om).trans (v.dat j l).1) L,(v.dat j l).2.up O⟩⟩,fun x N h=>O x N (r2 x N h),fun x Y l=>(r x (by have:=l k y;rw[H]at this;exact this)).trans ((aM g x Y (m8w C) wr (k*8)).trans (r3 x Y l)),by rw[E,bS];exact r4,(cJ g B hB w (m8w C) wr (k*8) r5).trans G⟩,by simp[intOf];omega⟩;by_cases e:j=k
    .subst e;rw[H,hC];exact⟨fun t p=>cU (az g (m8w C) wr (j*8) t om (v.row (j*8+t) om).1) L,fun b f=>A b f⟩
    .have hj':j<k:=om;have R:=r1 hd j hj';refine⟨fun t p=>cU ((rO g (m8w C) wr (k*8) (j*8+t) om).trans (R.row t p)) L,fun b f t p=>cU (R.dat b f t p) ?_⟩;have a6:b≠g:=by
      rcases(v.dat j om).2.2.2 with⟨e,_⟩|⟨b',e,hne,_⟩
      .rw[f]at e;cases e
      .rw[f]at e;cases e;exact hne
     have a5:a≠sQ ⟨b,0,nn⟩:=by
      have:=hd j k hj' y b f;rw[H]at this;exact this
     exact(r b a5).trans (aM g b a6 (m8w C) wr (k*8))
   .have hkn:k=n:=om;subst hkn;go_wp2;go_ret;exact⟨rfl,K,d,P,M,Q,f⟩
def lS(B:Nat)(w:Wd)(g n cap c:Nat)(hs:Nat->Hd)(h:sh5 w g n hs)(a8:n<=cap)(hn:n<=1048576)(hc:c<=20000000000000)(hB:B<=g)(X:abv B hs n):ce 149 #[sL (be g) n cap,I J (c:Int)] w fun o w'=>o=rT (I J (cn5 c hs n:Int))/\(dst hs n->∀j,j<n->mk5 w' g (j*5) (cn5 c hs j) (hs j))/\sh5 w' g n hs/\(∀x N,ay w x N->ay w' x N)/\(∀x,x≠g->(∀j,j<n->(hs j).1≠sQ ⟨x,0,nn⟩)->w'.heap[x]?=w.heap[x]?)/\w'.heap.size=w.heap.size/\Below B w w':=by
 have a3:=hI h;have a0:=hI X;have a2:=hI (uP c n hs (fun j f=>(h.dat j f).2.1));clear h X;go_enter func149,ntmps149;go_wp2;go_loopw [1,5] (fun kk i wr=>∃k:Nat,k<=n/\i=I J (k:Int)/\kk=I J (cn5 c hs k:Int)/\(dst hs n->∀j,j<k->mk5 wr g (j*5) (cn5 c hs j) (hs j))/\sh5 wr g n hs/\(∀x N,ay w x N->ay wr x N)/\(∀x,x≠g->(∀j,j<n->(hs j).1≠sQ ⟨x,0,nn⟩)->wr.heap[x]?=w.heap[x]?)/\wr.heap.size=w.heap.size/\Below B w wr) (fun _ i _=>n-(intOf i).toNat);case atStart=>exact⟨0,nZ _,rfl,rfl,fun _ j f=>Qj f (nN _),a3.o,fun _ _ h=>h,fun _ _ _=>rfl,rfl,bW _ _⟩
 case round=>
  obtain⟨k,hk,rfl,rfl,K,l,P,M,Q,d⟩:=hrel;by_cases y:k<n
  .have hkn:k*5+5<=n*5:=om;obtain⟨⟨v0,z0⟩,f0⟩:=l.row (k*5) om;obtain⟨⟨v1,z1⟩,f1⟩:=l.row (k*5+1) om;obtain⟨⟨v2,z2⟩,f2⟩:=l.row (k*5+2) om;obtain⟨⟨v3,z3⟩,f3⟩:=l.row (k*5+3) om;obtain⟨Z,u⟩:=l.dat k y;have HD:Hid ((dst hs n->∀j,j<k->mk5 wr g (j*5) (cn5 c hs j) (hs j))/\sh5 wr g n hs/\(∀x N,ay w x N->ay wr x N)/\(∀x,x≠g->(∀j,j<n->(hs j).1≠sQ ⟨x,0,nn⟩)->wr.heap[x]?=w.heap[x]?)/\wr.heap.size=w.heap.size/\Below B w wr):=⟨K,l,P,M,Q,d⟩
   clear K l P M Q d;have T:Hid (cn5 c hs (k+1)=cn5 c hs k+4+(hs k).2.1):=rfl;have a7:cn5 c hs k<=30000000000000:=by have:=a2.o k hk;omega
   generalize hC:cn5 c hs k=C at*;have HC:=hI hC;clear hC;have S:=hI (a0.o k y);obtain⟨t,p⟩:∃t,hs k=t:=⟨_,rfl⟩
   have HT:=hI p;rw[p]at Z u T S;clear p;obtain⟨a,m,U⟩:=t;simp only at Z;have hm:m<=1048576:=u.1;have e0:((C:Int)).tmod 3=(((C+0)%3:Nat):Int):=by rw[QZ om];omega
   have e2:((C:Int)+1+1).tmod 3=(((C+2)%3:Nat):Int):=by rw[QZ om];omega
   have a1:Hid (∀W,(∀x N,ay wr x N->ay W x N)->ce 151 #[sL a m U,I J ((C:Int)+1+1+1+1)] W fun o w'=>o=rT (I J ((C+4+m:Nat):Int))/\(∀b,a=be b->mkB w' b m (C+4))/\(∀x N,ay W x N->ay w' x N)/\(∀x,a≠sQ ⟨x,0,nn⟩->w'.heap[x]?=W.heap[x]?)/\w'.heap.size=W.heap.size/\Below B W w'):=fun W hW=>by
    have:=Ac B W g a m U (C+4) (u.up hW) S.o om;have e:(((C+4:Nat)):Int)=(C:Int)+1+1+1+1:=om;rw[e]at this;exact this
   have HH:=hI u;clear u;go_wp2_with(go_at_call 151;refine(a1.o _ (fun x N h=>h.setRow g (m5w C) wr (k*5))).mono ?_;rintro o s ⟨rfl,A,D,r,E,G⟩;have HQ:Hid ((∀b,a=be b->mkB s b m (C+4))/\(∀x N,ay (aO wr g (k*5) (m5w C)) x N->ay s x N)/\(∀x,a≠sQ ⟨x,0,nn⟩->s.heap[x]?=(aO wr g (k*5) (m5w C)).heap[x]?)/\s.heap.size=(aO wr g (k*5) (m5w C)).heap.size/\Below B (aO wr g (k*5) (m5w C)) s):=⟨A,D,r,E,G⟩;clear A D r E G);obtain⟨A,D,r,E,G⟩:=HQ.o;obtain⟨r1,v,r2,r3,r4,r5⟩:=HD.o;have H:=HT.o;have hC:=HC.o;have hl:(m5w C).length=4:=rfl;have a4:a≠sQ ⟨g,0,nn⟩:=by
    rcases HH.o.2.2 with⟨e,_⟩|⟨b,e,hne,_⟩
    .intro h;rw[h]at e;cases e
    .intro h;rw[h]at e;cases e;exact hne rfl
   have L:=r g a4;have O:∀x N,ay wr x N->ay s x N:=fun x N h=>D x N (h.setRow g (m5w C) wr (k*5));refine⟨⟨k+1,om,by go_num,by rw[T.o];congr 1,fun hd j f=>?_,⟨O _ _ v.row,fun j f=>⟨cU ((rO g (m5w C) wr (k*5) (j*5+4) om).trans (v.dat j f).1) L,(v.dat j f).2.up O⟩⟩,fun x N h=>O x N (r2 x N h),fun x Y f=>(r x (by have:=f k y;rw[H]at this;exact this)).trans ((aM g x Y (m5w C) wr (k*5)).trans (r3 x Y f)),by rw[E,bS];exact r4,(cJ g B hB w (m5w C) wr (k*5) r5).trans G⟩,by simp[intOf];omega⟩;by_cases e:j=k
   .subst e;rw[H,hC];exact⟨fun t p=>cU (az g (m5w C) wr (j*5) t om (v.row (j*5+t) om).1) L,fun b d=>A b d⟩
   .have hj':j<k:=om;have R:=r1 hd j hj';refine⟨fun t p=>cU ((rO g (m5w C) wr (k*5) (j*5+t) om).trans (R.row t p)) L,fun b d t p=>cU (R.dat b d t p) ?_⟩;have a6:b≠g:=by
     rcases(v.dat j om).2.2.2 with⟨e,_⟩|⟨b',e,hne,_⟩
     .rw[d]at e;cases e
     .rw[d]at e;cases e;exact hne
    have a5:a≠sQ ⟨b,0,nn⟩:=by
     have:=hd j k hj' y b d;rw[H]at this;exact this
    exact(r b a5).trans (aM g b a6 (m5w C) wr (k*5))
  .have hkn:k=n:=om;subst hkn;go_wp2;go_ret;exact⟨rfl,K,l,P,M,Q,d⟩
end
def uF{F:FuncId}(w:World)(g n cap c:Nat)(hs:Nat->Hd)(h:sh8 w g n hs)(d:∀j,j<n->mk8 w g (j*8) (cn8 c hs j) (hs j))(O:n<=cap)(P:n<=1048576)(N:c<=20000000000000)(hF:F=153\/F=155:=by decide):ce F #[sL (be g) n cap,I J (c:Int)] w fun o w'=>o=rT (I J (cn8 c hs n:Int))/\w'=w:=by
 rcases hF with rfl|rfl;all_goals
  have A:=hI h;have y:=hI d;have x:=hI (rj c n hs (fun j D=>(h.dat j D).2.1));clear h d;first|go_enter func153,ntmps153|go_enter func155,ntmps155
  go_wp2;go_loopw [1,5] (fun G i wr=>∃k:Nat,k<=n/\i=I J (k:Int)/\G=I J (cn8 c hs k:Int)/\wr=w) (fun _ i _=>n-(intOf i).toNat);case atStart=>exact⟨0,nZ _,rfl,rfl,rfl⟩
  case round=>
   obtain⟨k,E,rfl,rfl,rfl⟩:=hrel;by_cases r:k<n
   .have hx:=y.o k r;obtain⟨u,b⟩:=A.o.dat k r;have f:Hid (cn8 c hs (k+1)=cn8 c hs k+7+(hs k).2.1):=rfl;have M:cn8 c hs k<=30000000000000:=by have:=x.o k E;omega
    generalize hC:cn8 c hs k=C at*;have H:=hI hC;clear hC;obtain⟨t,s⟩:∃t,hs k=t:=⟨_,rfl⟩
    rw[s]at u b f hx;clear s;obtain⟨a,m,l⟩:=t;simp only at u;have d:m<=1048576:=b.1;have S:wr.cell? ⟨g,k*8,nn⟩=sQ (I J (C:Int)):=hx.row 0 om;have T:wr.cell? ⟨g,k*8+1,nn⟩=sQ (I J ((C:Int)+1)):=hx.row 1 om;have U:wr.cell? ⟨g,k*8+2,nn⟩=sQ (I J ((C:Int)+1+1)):=hx.row 2 om;have W:wr.cell? ⟨g,k*8+3,nn⟩=sQ (bO ((C:Int)%3==0)):=hx.row 3 om;have X:wr.cell? ⟨g,k*8+4,nn⟩=sQ (I .u32 (((C:Int)+1+1+1+1)%4294967296)):=hx.row 4 om;have x5:wr.cell? ⟨g,k*8+5,nn⟩=sQ (bO (((C:Int)+5)%3==0)):=hx.row 5 om;have Y:wr.cell? ⟨g,k*8+6,nn⟩=sQ (I J ((C:Int)+1+1+1+1+1+1)):=hx.row 6 om;have p:=hx.dat;have K:((C:Int)+1+1+1).tmod 3=(((C+3)%3:Nat):Int):=by rw[QZ om];omega
    have L:((C:Int)+1+1+1+1+1).tmod 3=(((C+5)%3:Nat):Int):=by rw[QZ om];omega
    have v:Hid (ce 156 #[sL a m l,I J ((C:Int)+1+1+1+1+1+1+1)] wr fun o w'=>o=rT (I J ((C:Int)+7+(m:Int)))/\w'=wr):=by
     have:=Ax wr g a m l (C+7) b p om;have e:(((C+7:Nat)):Int)=(C:Int)+1+1+1+1+1+1+1:=om;have B:(((C+7+m:Nat)):Int)=(C:Int)+7+(m:Int):=om;rw[e,B]at this;exact this
    clear hx b p;have Q:¬(C:Int)+7+(m:Int)<0:=om;go_wp2_with(go_at_call 156;refine v.o.mono ?_;rintro o R ⟨rfl,rfl⟩);refine⟨⟨k+1,om,by go_num,by rw[f.o];congr 1,trivial⟩,by simp[intOf];omega⟩
   .have hkn:k=n:=om;subst hkn;go_wp2;go_ret;exact⟨rfl,rfl⟩
def mg(w:World)(g n cap c:Nat)(hs:Nat->Hd)(h:sh5 w g n hs)(d:∀j,j<n->mk5 w g (j*5) (cn5 c hs j) (hs j))(N:n<=cap)(O:n<=1048576)(M:c<=20000000000000):ce 154 #[sL (be g) n cap,I J (c:Int)] w fun o w'=>o=rT (I J (cn5 c hs n:Int))/\w'=w:=by
 have B:=hI h;have A:=hI d;have y:=hI (uP c n hs (fun j D=>(h.dat j D).2.1));clear h d;go_enter func154,ntmps154;go_wp2;go_loopw [1,5] (fun G i wr=>∃k:Nat,k<=n/\i=I J (k:Int)/\G=I J (cn5 c hs k:Int)/\wr=w) (fun _ i _=>n-(intOf i).toNat);case atStart=>exact⟨0,nZ _,rfl,rfl,rfl⟩
 case round=>
  obtain⟨k,E,rfl,rfl,rfl⟩:=hrel;by_cases s:k<n
  .have hx:=A.o k s;obtain⟨v,b⟩:=B.o.dat k s;have f:Hid (cn5 c hs (k+1)=cn5 c hs k+4+(hs k).2.1):=rfl;have L:cn5 c hs k<=30000000000000:=by have:=y.o k E;omega
   generalize hC:cn5 c hs k=C at*;have H:=hI hC;clear hC;obtain⟨t,u⟩:∃t,hs k=t:=⟨_,rfl⟩
   rw[u]at v b f hx;clear u;obtain⟨a,m,l⟩:=t;simp only at v;have d:m<=1048576:=b.1;have R:wr.cell? ⟨g,k*5,nn⟩=sQ (bO ((C:Int)%3==0)):=hx.row 0 om;have S:wr.cell? ⟨g,k*5+1,nn⟩=sQ (I .u32 (((C:Int)+1)%4294967296)):=hx.row 1 om;have T:wr.cell? ⟨g,k*5+2,nn⟩=sQ (bO (((C:Int)+2)%3==0)):=hx.row 2 om;have U:wr.cell? ⟨g,k*5+3,nn⟩=sQ (I J ((C:Int)+1+1+1)):=hx.row 3 om;have r:=hx.dat;have K:((C:Int)).tmod 3=(((C+0)%3:Nat):Int):=by rw[QZ om];omega
   have p:((C:Int)+1+1).tmod 3=(((C+2)%3:Nat):Int):=by rw[QZ om];omega
   have x:Hid (ce 156 #[sL a m l,I J ((C:Int)+1+1+1+1)] wr fun o w'=>o=rT (I J ((C:Int)+4+(m:Int)))/\w'=wr):=by
    have:=Ax wr g a m l (C+4) b r om;have e:(((C+4:Nat)):Int)=(C:Int)+1+1+1+1:=om;have p:(((C+4+m:Nat)):Int)=(C:Int)+4+(m:Int):=om;rw[e,p]at this;exact this
   clear hx b r;have P:¬(C:Int)+4+(m:Int)<0:=om;go_wp2_with(go_at_call 156;refine x.o.mono ?_;rintro o Q ⟨rfl,rfl⟩);refine⟨⟨k+1,om,by go_num,by rw[f.o];congr 1,trivial⟩,by simp[intOf];omega⟩
  .have hkn:k=n:=om;subst hkn;go_wp2;go_ret;exact⟨rfl,rfl⟩
end Go.Proofs.YtbbffcolnddcdaaGreatDoor
