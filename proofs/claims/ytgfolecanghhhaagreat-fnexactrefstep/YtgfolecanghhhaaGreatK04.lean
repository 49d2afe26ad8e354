import Derived.Test.YtgfolecanghhhaaGreatK03
import Derived.Test.YtgfolecanghhhaaGreatProg
import Derived.WalkKit
import Derived.WalkSpells
import Derived.WalkLawsBesides
import Derived.Deep.QuietTactic
import Derived.BigQuiet
import Derived.Below
import Derived.Laws.BitsAllLaws
import Derived.Laws.IdiomStrings
import Derived.Deep.RegionWith
import Derived.Deep.MidRow
import Derived.Maps.AppendAt
namespace Go.Proofs.YtgfolecanghhhaaGreat
open Go.Proofs.Tryz
set_option linter.all false
open Option renaming none->nn,some->sQ
open Go renaming World->Wd
open Go.RowKit
open Go.Value renaming int->I,slice->sL,bool->bO,pointer->pT,agg->aG
open Go.IntKind renaming i64->J
open Go.Ending renaming returned->rT
open Go.Proofs.Tryz renaming prog->Tp
def au {k:IntKind} {a b:Int} (h:a=b):Ending.returned (.int k a) = rT (.int k b):=by rw[h]
def aj {a b:Bool} (h:a=b):Ending.returned (bO a) = rT (bO b):=by rw[h]
def eB (l:List Nat) (k:Nat) (h:k<l.length):l.getD k 0=l[k]:=by simp[List.getD,h]
def vl {W w1:Wd} (hb:Bl W w1):(∀ b o,b<W.heap.size->w1.cell? ⟨b,o,nn⟩=W.cell? ⟨b,o,nn⟩)/\(∀ b o,b<W.heap.size->w1.frozen? ⟨b,o,nn⟩=W.frozen? ⟨b,o,nn⟩):=
 ⟨fun b o h=>hb.cell (p:=⟨b,o,nn⟩) h,fun b o h=>hb.frozen (p:=⟨b,o,nn⟩) h⟩
def info5:(Tp.info? 5).map (fun i=>(i.zero,i.size,i.bytes))=sQ (sQ (I .u8 0),1,1):=kr
def bv (l:List Nat):List Value:=l.map (fun x:Nat=>Value.int .u8 (x:Int))
def nt (l:List Nat) (j:Nat) (h:j<l.length):(bv l)[j]?=sQ (Value.int .u8 (l[j]:Int)):=by simp[bv,h]
def aa (w:Wd) (B:Nat) (v:Value) (l:List Nat):Prop:=w.ownsRow B 5 1 v l.length (bv l)
def Gu {ops:Array Oper} {rest:List Oper} {o:Oper} {a:Act} {Q:Exit->Act->Wd->Prop} (w0 wr:Wd) (hgd:o.guard=nn) (s x:Operand)
  (ho:o.op = .call { callee:=.builtin .append,args:=#[s,x],argTypes:=#[65,65] })
  (B:Nat) (v:Value) (l:List Nat) (c:Nat) (ci:Int) (hci:ci=(c:Int)) (hs:a.eval s=v) (hown:aa wr B v l)
  (hx:a.eval x = sL (sQ ⟨wr.heap.size,0,nn⟩) 1 1) (hlen:l.length<=100000000) (hB:B<=wr.heap.size) (hbel:Below B w0 wr)
  (h:∀ v' w',aa w' B v' (l++[c])->Below B w0 w'->B<=w'.heap.size->wpList Tp ops Q rest (a.put o.dst v') w') :
  wpList Tp ops Q (o :: rest) a (wr.alloc (.cells #[I .u8 ci] 5)):=by
 subst hci;obtain⟨i0,hi,hz0,hz1,hz2⟩:=QW info5;refine Q1 _ hgd s x 65 ho B 5 i0 (I .u8 0) 1 1 underlying65 hi hz0 hz1 hz2 rfl (by decide) v l.length (bv l) hs (QM hown _) ⟨wr.heap.size,0,nn⟩ 1 1 [I .u8 (c:Int)] hx rfl ?_ ?_ ?_ ?_ ?_ ?_
 .intro j u hj;match j,hj with
  | 0,hj=>simp at hj;subst hj;simp[Addr.add]
 .intro u hu;simp at hu;subst hu;rfl
 .unfold maxLen;omega
 .omega
 .simp;omega
 .intro v' w' ho' hg _;have hr:∀ k,v.ownBlock=sQ k->B<=k:=fun k hk=>(QB hown k hk).1;refine h v' w' ?_ ((hbel.alloc hB _).grown hg (by simp;omega) hr) (Nat.le_trans (by simp;omega) hg.size);have e1:bv (l++[c])=bv l++[I .u8 (c:Int)]:=by simp[bv]
  unfold aa;rw[e1,qe];exact ho'
def gB (w:Wd) (B:Nat) (hB:B<=w.heap.size):aa (w.alloc (.cells #[] 5)) B (sL (sQ ⟨w.heap.size,0,nn⟩) 0 0) []:=
 World.ownsRow_made w #[] 0 hB (by decide) rfl
structure su (w:Wd) (g n:Nat) (f:Nat->Nat):Prop where
 cell:∀ t,t<n->w.cell? ⟨g,t,nn⟩=sQ (I .u8 (f t:Int))
 free:∀ t,t<n->w.frozen? ⟨g,t,nn⟩=false
def su.of {w:Wd} {g n:Nat} {f f':Nat->Nat} (h:su w g n f) (he:∀ t,t<n->f t=f' t):su w g n f':=
 ⟨fun t ht=>by rw[<- he t ht];exact h.cell t ht,h.free⟩
def su.set {w:Wd} {g n:Nat} {f f':Nat->Nat} (h:su w g n f) (t0:Nat) (ht0:t0<n) (x:Int) (hx:x=(f' t0:Int)) (he:∀ t,t<n->t≠t0->f t=f' t):su (w.setCell ⟨g,t0,nn⟩ (I .u8 x)).drew g n f':=by
 refine⟨fun t ht=>?_,fun t ht=>?_⟩
 .rw[Q6];by_cases e:t=t0
  .subst e;rw[QS _ _ _ (h.cell t ht),hx]
  .rw[QG _ _ _ _ (by intro hh;exact e (by simpa using hh.symm)),h.cell t ht,he t ht e]
 .rw[World.frozen?_drew,Q0];exact h.free t ht
def kY {ops:Array Oper} {rest:List Oper} {o:Oper} {a:Act} {Q:Exit->Act->Wd->Prop} (w:Wd)
  (hg:o.guard=nn) (l c:Operand) (hop:o.op=Op.makeSlice 65 l c) (C:Int) (n:Nat) (hl:a.eval l = I J C) (hc:a.eval c = I J C) (hC:C=(n:Int)) (hn:n<=100000000)
  (hK:∀ w',su w' w.heap.size n (fun _=>0)->w.grownBy w' nn->w.heap.size<w'.heap.size->wpList Tp ops Q rest (a.put o.dst (sL (sQ ⟨w.heap.size,0,nn⟩) n n)) w') :
  wpList Tp ops Q (o :: rest) a w:=by
 obtain⟨i0,hi,hz0,hz1,hz2⟩:=QW info5;refine wpList_make_full w hg l c 65 hop w.heap.size 5 i0 (I .u8 0) 1 underlying65 hi hz0 hz1 .i64 .i64 C C n hl hc hC hC (by rw[hz2];omega) (by unfold maxLen;omega) (Nat.le_refl _) ?_;intro w' ho hgr;refine hK w' ⟨fun t ht=>?_,fun t ht=>QU ho t⟩ hgr (QB ho _ rfl).2;rw[QY ho t om];have e:(madeCells (Value.int IntKind.u8 0).cells (n*1)).toList=List.replicate (n*1) (I .u8 0):=toList_madeCells_one _ _;rw[e,Nat.mul_one,List.getElem?_replicate,qc ht];rfl
def su.set' {w:Wd} {g n:Nat} {f f':Nat->Nat} (h:su w g n f) (t0:Nat) (ht0:t0<n) (x:Int) (hx:x=(f' t0:Int)) (he:∀ t,t<n->t≠t0->f t=f' t):su (w.setCell ⟨g,t0,nn⟩ (I .u8 x)) g n f':=
 ⟨fun t ht=>by have:=(h.set t0 ht0 x hx he).cell t ht;rwa [Q6] at this,fun t ht=>by rw[Q0];exact h.free t ht⟩
def wT {P:Program} {md:Region.Mode} {ops:Array Oper} {Q:Exit->Act->Wd->Prop} {S:Wd->Prop} {i:Nat} {oi:Oper} {v:Value} {fuel:Nat} {listed:Array Bool} {a:Act} {w:Wd} (hi:ops[i]?=sQ oi) (hs:Region.noSelect ops=true) (hf:Region.free md ops listed i=true) (hr:(Region.ready md ops listed).contains i=true) (hQ:∀ c a w,Q (.panic c) (a.put oi.dst v) w->Q (.panic c) a w) (hy:YieldsIf P ops S oi v a) (hS:S w) (h:wpAnyH P md ops Q S fuel (listed.setIfInBounds i true) (a.put oi.dst v) w):wpAnyH P md ops Q S (fuel+1) listed a w:=wpAnyH_take hi hs hf hr hQ hy hS h
def aA {α:Type} (l:List α) (i:Nat) (a:α):l.toArray.setIfInBounds i a=(l.set i a).toArray:=List.setIfInBounds_toArray ..
def aB {α:Type} (x:α) (l:List α) (a:α):(x :: l).set 0 a=a :: l:=rfl
def aC {α:Type} (x:α) (l:List α) (n:Nat) (a:α):(x :: l).set (n+1) a=x :: l.set n a:=rfl
def aD {α:Type} (l:List α) (i:Nat) (h:i<l.toArray.size):l.toArray[i]=l[i]'(by simpa using h):=List.getElem_toArray ..
def aE {α:Type} (a:α) (l:List α) (h:0<(a :: l).length):(a :: l)[0]=a:=rfl
def aF {α:Type} (a:α) (l:List α) (i:Nat) (h:i+1<(a :: l).length):(a :: l)[i+1]=l[i]'(Nat.lt_of_succ_lt_succ h):=rfl
def wU {P:Program} {md:Region.Mode} {ops:Array Oper} {Q:Exit->Act->Wd->Prop} {S:Wd->Prop} (i:Nat) {oi:Oper} (v:Value) {fuel:Nat} {listed:Array Bool} {a:Act} {w:Wd} (hi:ops[i]?=sQ oi) (hy:YieldsIf P ops S oi v a) (hS:S w) (h:wpAnyH P md ops Q S fuel (listed.setIfInBounds i true) (a.put oi.dst v) w) (hk:(Region.noSelect ops&&(Region.free md ops listed i&&(Region.ready md ops listed).contains i))=true:=by kernel_rfl) (hQ:∀c a w,Q (.panic c) (a.put oi.dst v) w->Q (.panic c) a w:=by exact fun _ _ _ h=>h):wpAnyH P md ops Q S (fuel + 1) listed a w:= by
 simp only[qw] at hk;exact wpAnyH_take hi hk.1 hk.2.1 hk.2.2 hQ hy hS h
def wV {P:Program} {md:Region.Mode} {ops:Array Oper} {Q:Exit->Act->Wd->Prop} {S:Wd->Prop} (i:Nat) {oi:Oper} (v:Value) {fuel:Nat} {listed:Array Bool} {a:Act} {w:Wd} (hy:∀w,S w->(execOp a.eval oi).run P w=.ok (.value v) w) (hS:S w) (h:wpAnyH P md ops Q S fuel (listed.setIfInBounds i true) (a.put oi.dst v) w) (hi:ops[i]?=sQ oi:=by rfl) (hk:(Region.noSelect ops&&(Region.free md ops listed i&&((Region.ready md ops listed).contains i&&Region.wanted oi (yielded ops a.tmps))))=true:=by kernel_rfl) (hQ:∀c a w,Q (.panic c) (a.put oi.dst v) w->Q (.panic c) a w:=by exact fun _ _ _ h=>h):wpAnyH P md ops Q S (fuel + 1) listed a w:= by
 simp only[qw] at hk;exact wpAnyH_take hi hk.1 hk.2.1 hk.2.2.1 hQ (qr ⟨hk.2.2.2,hy⟩) hS h
def wW {P:Program} {md:Region.Mode} {ops:Array Oper} {Q:Exit->Act->Wd->Prop} {S:Wd->Prop} (i:Nat) {oi:Oper} {fuel:Nat} {listed:Array Bool} {a:Act} {w:Wd} (hS:S w) (h:wpAnyH P md ops Q S fuel (listed.setIfInBounds i true) (a.put oi.dst undef) w) (hi:ops[i]?=sQ oi:=by rfl) (hk:(Region.noSelect ops&&(Region.free md ops listed i&&((Region.ready md ops listed).contains i&&!Region.wanted oi (yielded ops a.tmps))))=true:=by kernel_rfl) (hQ:∀c a w,Q (.panic c) (a.put oi.dst undef) w->Q (.panic c) a w:=by exact fun _ _ _ h=>h):wpAnyH P md ops Q S (fuel + 1) listed a w:= by
 simp only[qw,Bool.not_eq_true'] at hk;exact wpAnyH_take hi hk.1 hk.2.1 hk.2.2.1 hQ (qx ⟨hk.2.2.2,rfl⟩) hS h
abbrev zX:List Value:=[I J 0,I J 0,I J 0,I J 0,sL nn 0 0,sL nn 0 0,sL nn 0 0,sL nn 0 0,I J 0,I J 0]
def aZ:(∀ (a:Act) (d:Tmp) (v:Value),a.put (sQ d) v={ a with tmps:=a.tmps.setIfInBounds d v })/\(∀ (a:Act) (v:Value),a.put nn v=a)/\(∀ (α:Type) (l:List α) (i:Nat) (a:α),l.toArray.setIfInBounds i a=(l.set i a).toArray)/\(∀ (α:Type) (x:α) (l:List α) (a:α),(x :: l).set 0 a=a :: l)/\(∀ (α:Type) (x:α) (l:List α) (n:Nat) (a:α),(x :: l).set (n+1) a=x :: l.set n a)/\(∀ (α:Type) (l:List α) (i:Nat) (h:i<l.toArray.size),l.toArray[i]=l[i]'(by simpa using h))/\(∀ (α:Type) (a:α) (l:List α) (h:0<(a :: l).length),(a :: l)[0]=a)/\∀ (α:Type) (a:α) (l:List α) (i:Nat) (h:i+1<(a :: l).length),(a :: l)[i+1]=l[i]'(Nat.lt_of_succ_lt_succ h):=⟨fun _ _ _=>rfl,fun _ _=>rfl,fun _=>aA,fun _=>aB,fun _=>aC,fun _=>aD,fun _=>aE,fun _=>aF⟩
theorem bN {P:Program} {fn:Func} {R:Ending->Wd->Prop} {e:Exit} {a:Act} {w:Wd} (hR:R (.returned (.tuple #[])) w) (hr:fn.results=#[]:=by rfl) (hd:a.defers=[]:=by rfl) (he:e = .ret \/ e = .normal:=by first | exact .inl rfl | exact .inr rfl):bodyPost P fn R e a w:=by rcases he with rfl|rfl;exact bodyPost_ret (results_none hr _ _ _) hd hR;exact bodyPost_end (results_none hr _ _ _) hd hR
theorem Zs {ops:Array Oper} {rest:List Oper} {op:Oper} {a:Act} {w:Wd} {Q:Exit->Act->Wd->Prop} {x y:Operand} {b o:Nat} (ty:TypeId) (c:Array Value) (ht:w.there b o c.size) (hi:(Tp.info? ty).map (·.size)=some c.size) (h1:c.all (·.oneCell')=true) (h:wpList Tp ops Q rest (a.put op.dst undef) (w.setCells b o c.toList)) (hg:op.guard=none:=by rfl) (ho:op.op = .store ty x y:=by rfl) (hx:a.eval x = .pointer (some ⟨b,o,none⟩):=by rfl) (hy:a.eval y = .agg c:=by rfl):wpList Tp ops Q (op::rest) a w:=wpList_store_mid hg ty x y ho b o c hx hy ht hi h1 h
abbrev zY:List Value:=[.int .i64 0,.int .i64 0,.int .i64 0,.bool false,.bool false,.bool false,.bool false,.bool false,.int .i64 0,.int .i64 0,.int .i64 0,.int .i64 0,.int .i64 0,.int .i64 0,.int .i64 0,.slice nn 0 0,.slice nn 0 0,.slice nn 0 0,.slice nn 0 0,.int .i64 0,.int .i64 0]
def nR (n:Nat):n<=n:=Nat.le_refl n
def bW (n:Nat) (w:Wd):Below n w w:=Below.refl n w
def Zw {w:Wd} {x:Obj}:Below w.heap.size w (w.alloc x):=(Below.refl _ _).alloc (Nat.le_refl _) _
theorem ZG {ops:Array Oper} {rest:List Oper} {op:Oper} {a:Act} {w:Wd} {Q:Exit->Act->Wd->Prop} {x:Operand} {b o:Nat} {d:TypeDesc} (ty:TypeId) {cs:List Value} (hc:w.rangeAt b o cs) (hu:Tp.underlying ty=some d) (hi:(Tp.info? ty).map (·.size)=some cs.length) (h:wpList Tp ops Q rest (a.put op.dst (.agg cs.toArray)) w) (hg:op.guard=none:=by rfl) (ho:op.op = .load ty x:=by rfl) (hx:a.eval x = .pointer (some ⟨b,o,none⟩):=by rfl) (hd:d.isRow=true:=by rfl):wpList Tp ops Q (op::rest) a w:=wpList_load_mid hg ty x ho b o hx cs d hc hu hd hi h
theorem Zi {ops:Array Oper} {rest:List Oper} {op:Oper} {a:Act} {w:Wd} {Q:Exit->Act->Wd->Prop} {x:Operand} {b o:Nat} {d:TypeDesc} (ty:TypeId) (cs:List Value) (hc:w.rangeAt b o cs) (hu:Tp.underlying ty=some d) (hi:(Tp.info? ty).map (·.size)=some cs.length) (h:wpList Tp ops Q rest (a.put op.dst (.agg cs.toArray)) w) (hg:op.guard=none:=by rfl) (ho:op.op = .load ty x:=by rfl) (hx:a.eval x = .pointer (some ⟨b,o,none⟩):=by rfl) (hd:d.isRow=true:=by rfl):wpList Tp ops Q (op::rest) a w:=wpList_load_mid hg ty x ho b o hx cs d hc hu hd hi h
def nL {a b c:Nat} (h:a<b) (h2:b<=c):a<c:=Nat.lt_of_lt_of_le h h2
def nZ (n:Nat):0<=n:=Nat.zero_le n
def nT {a b c:Nat} (h:a<=b) (h2:b<=c):a<=c:=Nat.le_trans h h2
def nN (n:Nat):¬n<0:=Nat.not_lt_zero n
def nA (n k:Nat):n<=n+k:=Nat.le_add_right n k
set_option maxRecDepth 20000
set_option maxHeartbeats 16000000
section
variable {w w':Wd} {g n cap m:Nat} {l:List Nat}
structure iB (w:Wd) (a:Option Addr) (n cap:Nat) (l:List Nat):Prop where
 len:n=l.length
 cap:n<=cap
 small:∀ x ∈ l,x<256
 cells:l≠[]->∃ g off,a=sQ ⟨g,off,nn⟩/\∀ j (h:j<l.length),w.cell? ⟨g,off+j,nn⟩=sQ (I .u8 (l[j]:Int))
def iB.below {a:Option Addr} (h:iB w a n cap l) (hb:Bl w w'):iB w' a n cap l:=by
 refine⟨h.len,h.cap,h.small,fun hl=>?_⟩;obtain⟨g,off,ha,hc⟩:=h.cells hl;refine⟨g,off,ha,fun j hj=>?_⟩;have h1:=hc j hj;rw[hb.cell (QC w _ h1)];exact h1
def az (w:Wd) (g m:Nat):Prop:=∀ t,t<m->(∃ v,w.cell? ⟨g,t,nn⟩=sQ v)/\w.frozen? ⟨g,t,nn⟩=false
def az.up {W:Wd} (h:az w g m) (he:W.heap[g]?=w.heap[g]?):az W g m:=fun t ht=>by
 have:=h t ht;simp only[World.cell?,World.frozen?,he] at this ⊢;exact this
def az.setOther (h:az w g m) (b j:Nat) (v:Value) (hb:b≠g):az (w.setCell ⟨b,j,nn⟩ v) g m:=h.up (QA w ⟨b,j,nn⟩ g v (fun e=>hb e.symm))
def pq (w:Wd) (a:Option Addr) (n cap:Nat) (l:List Nat) (h:iB w a n cap l) (hn:n<=1048576) :
  Calls Tp 170 #[sL a n cap] w fun e w'=>∃ g,e = rT (sL (sQ ⟨g,0,nn⟩) n n)/\iB w' (sQ ⟨g,0,nn⟩) n n l/\Bl w w'/\w.heap.size<=g/\g<w'.heap.size/\az w' g n:=by
 have hlen:=h.len;have hcp:=h.cap;by_cases hl:l=[]
 .subst hl;have hn0:n=0:=hlen;subst hn0;have HS:Hid (∀ x ∈ ([]:List Nat),x<256):=h.small;clear hlen h;go_enter func170,ntmps170;go_wp2_with (at_make;refine kY _ rfl (.tmp 6) (.tmp 6) rfl _ 0 rfl rfl rfl om ?_;intro w1 hrow hg1 hz1);go_loopw [4] (fun i wr=>i = I J 0/\Bl w wr/\w.heap.size<wr.heap.size) (fun _ _=>0);case atStart=>exact⟨rfl,(bW _ _).grown hg1 (nR _) (by intro k e;cases e),hz1⟩
  case round=>
   obtain⟨rfl,hb,hz⟩:=hrel;go_wp2;go_ret;exact⟨_,rfl,⟨rfl,nR _,HS.o,fun e=>Qy rfl e⟩,hb,nR _,hz,fun t ht=>Qy ht (nN _)⟩
 .obtain⟨g,off,rfl,hc⟩:=h.cells hl;have hgz:g<w.heap.size:=QC w _ (hc 0 (by have:=List.length_pos_iff.2 hl;omega));have hsm:=h.small;have HL:Hid (n=l.length):=hlen;have hn1:n<=l.length:=om;have hn2:l.length<=n:=om;clear h hlen;go_enter func170,ntmps170;go_wp2_with (at_make;refine kY _ rfl (.tmp 6) (.tmp 6) rfl _ n rfl rfl rfl om ?_;intro w1 hrow hg1 hz1);go_loopw [4] (fun i wr=>∃ k:Nat,k<=n/\i = I J k/\su wr w.heap.size n (fun t=>if t<k then l.getD t 0 else 0)/\Bl w wr/\w.heap.size<wr.heap.size) (fun i _=>n-(intOf i).toNat);case atStart=>exact⟨0,nZ _,rfl,hrow.of (fun t _=>by simp),(bW _ _).grown hg1 (nR _) (by intro k e;cases e),hz1⟩
  case round=>
   clear hrow hz1;obtain⟨k,hk,rfl,hrow,hb,hz⟩:=hrel;by_cases hlt:k<n
   .have hcx:wr.cell? ⟨g,off+k,nn⟩=sQ (I .u8 (l[k]:Int)):=(hb.cell (by exact hgz)).trans (hc k om);have hcy:=hrow.cell k hlt;have hfy:=hrow.free k hlt;have HG:Hid (l.getD k 0=l[k]):=eB l k om;generalize l[k]=x at *;have hne:¬ w.heap.size=g:=om;go_wp2;go_roundw;case rel=>
     refine⟨k+1,om,by go_num,hrow.set' k hlt _ ?_ ?_,hb.setCell (by exact nR _) _,by simpa using hz⟩
     .rw[qc (Nat.lt_succ_self k),HG.o]
     .intro t _ hne';by_cases h1:t<k
      .rw[qc h1,qc om]
      .rw[qa h1,qa om]
    case measure=>simp[intOf];omega
   .go_wp2;go_ret;refine⟨_,rfl,⟨HL.o,nR _,hsm,fun _=>⟨_,0,rfl,fun j hj=>?_⟩⟩,hb,nR _,hz,fun t ht=>⟨⟨_,hrow.cell t ht⟩,hrow.free t ht⟩⟩;have:=hrow.cell j om;rw[qi,this,qc om,eB l j hj]
abbrev frV (e:Bool) (i:Nat) (r:Bool) (d:Int) (a:Option Addr) (n cap:Nat):Value:=aG #[bO e,I .u32 (i:Int),bO r,I J d,sL a n cap]
abbrev frC (e:Bool) (i:Nat) (r:Bool) (d:Int) (a:Option Addr) (n cap:Nat) (T:TypeId):Obj:=.cells #[bO e,I .u32 (i:Int),bO r,I J d,sL a n cap] T
def jS (w:Wd) (a:Option Addr) (n cap:Nat) (m:Nat) (hn:n<=9223372036854775807) (hm:m<=1048576) :
  Calls Tp 165 #[sL a n cap,I J m] w fun o w'=>o = rT (I J (if (n:Int)<=(m:Int) then (m:Int)-(n:Int) else -1))/\w=w':=by
 by_cases h:(n:Int)<=(m:Int)
 .rw[qc h];go_enter func165,ntmps165;go_wp2;go_ret;exact⟨rfl,rfl⟩
 .rw[qa h];go_enter func165,ntmps165;go_wp2;go_ret;exact⟨rfl,rfl⟩
def dF (w:Wd) (e:Bool) (i:Nat) (r:Bool) (d:Int) (a:Option Addr) (n cap:Nat) (m:Nat) (hn:n<=9223372036854775807) (hm:m<=1048576) :
  Calls Tp 108 #[frV e i r d a n cap,I J m] w fun o w'=>o = rT (I J (if (n:Int)<=(m:Int) then (m:Int)-(n:Int) else -1))/\w.alloc (frC e i r d a n cap 165)=w':=by
 by_cases h:(n:Int)<=(m:Int)
 .have HC:Hid (∀ W,Calls Tp 165 #[sL a n cap,I J m] W fun o w'=>o = rT (I J ((m:Int)-(n:Int)))/\W=w'):=by
   intro W;have:=jS W a n cap m hn hm;rw[qc h] at this;exact this
  rw[qc h];go_enter func108,ntmps108;go_wp2_with (go_at_call 165;refine (HC.o _).mono ?_;rintro o w1 ⟨rfl,rfl⟩);go_ret;exact⟨rfl,rfl⟩
 .have HC:Hid (∀ W,Calls Tp 165 #[sL a n cap,I J m] W fun o w'=>o = rT (I J (-1))/\W=w'):=by
   intro W;have:=jS W a n cap m hn hm;rw[qa h] at this;exact this
  rw[qa h];go_enter func108,ntmps108;go_wp2_with (go_at_call 165;refine (HC.o _).mono ?_;rintro o w1 ⟨rfl,rfl⟩);go_ret;exact⟨rfl,rfl⟩
def iB.other (h:iB w (sQ ⟨g,0,nn⟩) n cap l) (hk:w'.heap[g]?=w.heap[g]?):iB w' (sQ ⟨g,0,nn⟩) n cap l:=by
 refine⟨h.len,h.cap,h.small,fun hl=>?_⟩;obtain⟨g',off,ha,hc⟩:=h.cells hl;cases ha;refine⟨g,0,rfl,fun t ht=>?_⟩;have:=hc t ht;simp only[World.cell?,hk] at this ⊢;exact this
def iB.setOther (h:iB w (sQ ⟨g,0,nn⟩) n cap l) (b j:Nat) (v:Value) (hb:b≠g):iB (w.setCell ⟨b,j,nn⟩ v) (sQ ⟨g,0,nn⟩) n cap l:=by
 refine⟨h.len,h.cap,h.small,fun hl=>?_⟩;obtain⟨g',off,ha,hc⟩:=h.cells hl;refine⟨g',off,ha,fun t ht=>?_⟩;cases ha;rw[QG _ _ _ _ (by intro hh;exact hb (congrArg Addr.block hh))];exact hc t ht
def gY (w:Wd) (e:Bool) (i:Nat) (r:Bool) (d:Int) (a:Option Addr) (n cap:Nat) (l:List Nat) (h:iB w a n cap l) (hn:n<=1048576) :
  Calls Tp 129 #[frV e i r d a n cap] w fun o w'=>∃ g,o = rT (frV e i r d (sQ ⟨g,0,nn⟩) n n)/\iB w' (sQ ⟨g,0,nn⟩) n n l/\Bl w w'/\w.heap.size<=g/\g<w'.heap.size/\az w' g n:=by
 have HH:Hid (iB w a n cap l):=h;clear h;go_enter func129,ntmps129;go_wp2_with (go_at_call 170;refine (pq _ a n cap l (HH.o.below ?_) hn).mono ?_)
 .exact (Zw.alloc pQ _).alloc (by simp;omega) _
 .rintro o w1 ⟨g,rfl,hby,hb,hg,hgz,hrf⟩;have HGZ:Hid (g<w1.heap.size):=hgz;have HRF:Hid (az w1 g n):=hrf;clear hgz hrf;obtain⟨hc,hf⟩:=vl hb;have hB:Bl w w1:=((Zw.alloc pQ _).alloc (by simp;omega) _).trans (hb.mono (by simp;omega))
  have HG:Hid (w.heap.size+1+1+1<=g):=by unfold Hid;simpa using hg
  have HY:Hid (iB w1 (sQ ⟨g,0,nn⟩) n n l):=hby;clear hb hg hby;go_wp2;refine QE (v:=frV e i r d (sQ ⟨g,0,nn⟩) n n) (by simp[results,results129,go_sem,hc]) rfl ?_;have hg':=HG.o;refine⟨g,rfl,?_,?_,om,by simpa using HGZ.o,?_⟩
  .exact (((((HY.o.setOther _ 4 _ om).setOther _ 0 _ om).setOther _ 1 _ om).setOther _ 2 _ om).setOther _ 3 _ om).setOther _ 4 _ om
  .exact (((((hB.setCell (p:=⟨_,4,nn⟩) (by simp;omega) _).setCell (p:=⟨_,0,nn⟩) pQ _).setCell (p:=⟨_,1,nn⟩) pQ _).setCell (p:=⟨_,2,nn⟩) pQ _).setCell (p:=⟨_,3,nn⟩) pQ _).setCell (p:=⟨_,4,nn⟩) pQ _
  .exact (((((HRF.o.setOther _ 4 _ om).setOther _ 0 _ om).setOther _ 1 _ om).setOther _ 2 _ om).setOther _ 3 _ om).setOther _ 4 _ om
def MZ (w:Wd) (a1 a2:Option Addr) (n1 c1 n2 c2:Nat) (l:List Nat) (h1:iB w a1 n1 c1 l) (h2:iB w a2 n2 c2 l) (hn:n1<=1048576) :
  Calls Tp 204 #[sL a1 n1 c1,sL a2 n2 c2] w fun o w'=>o = rT (bO true)/\∃ q,w'=w.drewN q:=by
 have e1:=h1.len;have e2:=h2.len;by_cases hl:l=[]
 .subst hl;have e1':n1=0:=e1;have e2':n2=0:=e2;subst e1' e2';clear e1 e2 h1 h2;go_enter func204,ntmps204;go_wp2;go_loopw [5] (fun i wr=>i = I J 0/\wr=w) (fun _ _=>0);case atStart=>exact⟨rfl,rfl⟩
  case round=>
   obtain⟨rfl,rfl⟩:=hrel;go_wp2;go_ret;exact⟨rfl,0,rfl⟩
 .obtain⟨g1,o1,rfl,k1⟩:=h1.cells hl;obtain⟨g2,o2,rfl,k2⟩:=h2.cells hl;have hnn:n2=n1:=om;subst hnn;have hn1:n2<=l.length:=om;clear e1 e2 h1 h2;go_enter func204,ntmps204;go_wp2;go_loopw [5] (fun i wr=>∃ k:Nat,k<=n2/\i = I J k/\∃ q,wr=w.drewN q) (fun i _=>n2-(intOf i).toNat);case atStart=>exact⟨0,nZ _,rfl,0,rfl⟩
  case round=>
   obtain⟨k,hk,rfl,q,rfl⟩:=hrel;by_cases hlt:k<n2
   .have c1:=k1 k om;have c2:=k2 k om;generalize l[k]=x at *;go_wp2;go_quiet (fail);go_wp2;go_roundw;case rel=>exact⟨k+1,om,by go_num,_,rfl⟩
    case measure=>simp[intOf];omega
   .go_wp2;go_ret;exact⟨rfl,_,rfl⟩
def eU (w:Wd) (e:Bool) (i:Nat) (r:Bool) (d:Int) (a:Option Addr) (n cap:Nat) (l:List Nat) (h:iB w a n cap l) (a':Option Addr) (n' cap':Nat) (h':iB w a' n' cap' l) (hn:n<=1048576) :
  Calls Tp 161 #[frV e i r d a n cap,frV e i r d a' n' cap'] w fun o w'=>o = rT (bO true)/\Bl w w':=by
 have HH:Hid (iB w a n cap l):=h;have HH':Hid (iB w a' n' cap' l):=h';clear h h';have hE:(e != e)=false:=pQ;have hR:(r != r)=false:=pQ;have hD:(d != d)=false:=pQ;have hI:((i:Int) != (i:Int))=false:=pQ;have hbl:Bl w ((w.alloc (frC e i r d a n cap 67)).alloc (frC e i r d a' n' cap' 67)):=Zw.alloc pQ _;have HB:Hid (Bl w ((w.alloc (frC e i r d a n cap 67)).alloc (frC e i r d a' n' cap' 67))):=hbl;clear hbl;go_enter func161,ntmps161;go_wp2_with (go_at_call 204;refine (MZ _ _ _ _ _ _ _ l (HH.o.below HB.o) (HH'.o.below HB.o) hn).mono ?_;rintro o w1 ⟨rfl,q,rfl⟩);go_ret;exact⟨rfl,QQ HB.o q⟩
end
abbrev flV (e:Bool) (m k:Int):Value:=aG #[bO e,I .u32 m,I .u32 k]
abbrev cfV (a b c d:Int):Value:=aG #[I J a,I J b,I J c,I J d]
abbrev bxV (x y z:Int) (e:Bool) (i:Nat) (r:Bool) (d:Int) (a:Option Addr) (n cap:Nat):Value:=aG #[I J x,I J y,I J z,bO e,I .u32 (i:Int),bO r,I J d,sL a n cap]
def nG (w:World) (e:Bool) (m k:Int):Calls Tp 127 #[flV e m k] w fun o w'=>o = rT (flV e m k)/\Bl w w':=by
 go_enter func127,ntmps127;go_wp2;refine QE (v:=flV e m k) (by simp[results,results127,go_sem]) rfl ?_;exact⟨rfl,(Zw.alloc pQ _).alloc (by simp;omega) _⟩
def nI (w:World) (a b c d:Int):Calls Tp 74 #[cfV a b c d] w fun o w'=>o = rT (cfV a b c d)/\Bl w w':=by
 go_enter func74,ntmps74;go_wp2;refine QE (v:=cfV a b c d) (by simp[results,results74,go_sem]) rfl ?_;exact⟨rfl,(Zw.alloc pQ _).alloc (by simp;omega) _⟩
def mB (w:World) (e:Bool) (m k:Int):Calls Tp 159 #[flV e m k,flV e m k] w fun o w'=>o = rT (bO true)/\Bl w w':=by
 have hE:(e != e)=false:=pQ;have hM:(m != m)=false:=pQ;have hK:(k != k)=false:=pQ;go_enter func159,ntmps159;go_wp2;go_ret;exact⟨rfl,Zw.alloc pQ _⟩
def mD (w:World) (a b c d:Int):Calls Tp 94 #[cfV a b c d,cfV a b c d] w fun o w'=>o = rT (bO true)/\Bl w w':=by
 have hE:(a != a)=false:=pQ;have hM:(b != b)=false:=pQ;have hK:(c != c)=false:=pQ;have hL:(d != d)=false:=pQ;go_enter func94,ntmps94;go_wp2;go_ret;exact⟨rfl,Zw.alloc pQ _⟩
def Nn {F:FuncId} (w:World) (x y z:Int) (e:Bool) (i:Nat) (r:Bool) (d:Int) (a:Option Addr) (n cap:Nat) (l:List Nat) (h:iB w a n cap l) (hn:n<=1048576) (hF:F=128\/F=130:=by decide) :
  Calls Tp F #[bxV x y z e i r d a n cap] w fun o w'=>∃ g,o = rT (bxV x y z e i r d (some ⟨g,0,none⟩) n n)/\iB w' (some ⟨g,0,none⟩) n n l/\Bl w w'/\w.heap.size<=g/\g<w'.heap.size/\az w' g n:=by
 rcases hF with rfl|rfl;all_goals
  have HH:Hid (iB w a n cap l):=h;clear h;first | go_enter func128,ntmps128 | go_enter func130,ntmps130
  go_wp2_with (go_at_call 129;refine (gY _ e i r d a n cap l (HH.o.below ?_) hn).mono ?_)
  .exact (Zw.alloc pQ _).alloc (by simp;omega) _
  .rintro o w1 ⟨g,rfl,hby,hb,hg,hgz,hrf⟩;have HGZ:Hid (g<w1.heap.size):=hgz;have HRF:Hid (az w1 g n):=hrf;clear hgz hrf;obtain⟨hc,hf⟩:=vl hb;have hB:Bl w w1:=((Zw.alloc pQ _).alloc (by simp;omega) _).trans (hb.mono (by simp;omega));have HG:Hid (w.heap.size+1+1+1<=g):=by unfold Hid;simpa using hg
   have HY:Hid (iB w1 (some ⟨g,0,none⟩) n n l):=hby;clear hb hg hby;go_wp2;refine QE (v:=bxV x y z e i r d (some ⟨g,0,none⟩) n n) (by simp[results,results128,results130,go_sem,hc]) rfl ?_;have hg':=HG.o;refine⟨g,rfl,HY.o.other ?_,?_,om,by simpa using HGZ.o,HRF.o.up ?_⟩
   .repeat rw[QA _ _ g _ (by show g≠_;simp;omega)]
   .repeat refine Below.setCell ?_ (by simp;try omega) _
    exact hB
   .repeat rw[QA _ _ g _ (by show g≠_;simp;omega)]
def Nl {F:FuncId} (w:World) (x y z:Int) (e:Bool) (i:Nat) (r:Bool) (d:Int) (a:Option Addr) (n cap:Nat) (l:List Nat) (h:iB w a n cap l) (a':Option Addr) (n' cap':Nat) (h':iB w a' n' cap' l) (hn:n<=1048576) (hF:F=160\/F=162:=by decide) :
  Calls Tp F #[bxV x y z e i r d a n cap,bxV x y z e i r d a' n' cap'] w fun o w'=>o = rT (bO true)/\Bl w w':=by
 rcases hF with rfl|rfl;all_goals
  have HH:Hid (iB w a n cap l):=h;have HH':Hid (iB w a' n' cap' l):=h';clear h h';have hX:(x != x)=false:=pQ;have hY:(y != y)=false:=pQ;have hZ:(z != z)=false:=pQ;have HC:Hid (∀ W,Bl w W->Calls Tp 161 #[frV e i r d a n cap,frV e i r d a' n' cap'] W fun o w'=>o = rT (bO true)/\Bl w w'):=by
   intro W hW;refine (eU W e i r d a n cap l (HH.o.below hW) a' n' cap' (HH'.o.below hW) hn).mono ?_;rintro o w' ⟨rfl,hb⟩;exact⟨rfl,hW.trans (hb.mono hW.size)⟩
  first | go_enter func160,ntmps160 | go_enter func162,ntmps162
  go_wp2_with (go_at_call 161;refine (HC.o _ (Zw.alloc pQ _)).mono ?_;rintro o w1 ⟨rfl,hb1⟩);go_ret;exact⟨rfl,hb1⟩
def Nd {F:FuncId} (w:World) (x y z:Int) (e:Bool) (i:Nat) (r:Bool) (d:Int) (a:Option Addr) (n cap:Nat) (m:Nat) (hn:n<=9223372036854775807) (hm:m<=1048576) (hF:F=107\/F=109:=by decide) :
  Calls Tp F #[bxV x y z e i r d a n cap,I J m] w fun o w'=>o = rT (I J (if (n:Int)<=(m:Int) then (m:Int)-(n:Int) else -1))/\Bl w w':=by
 rcases hF with rfl|rfl;all_goals
  by_cases h:(n:Int)<=(m:Int)
  .have HC:Hid (∀ W,Calls Tp 108 #[frV e i r d a n cap,I J m] W fun o w'=>o = rT (I J ((m:Int)-(n:Int)))/\W.alloc (frC e i r d a n cap 165)=w'):=by
    intro W;have:=dF W e i r d a n cap m hn hm;rw[qc h] at this;exact this
   rw[qc h];first | go_enter func107,ntmps107 | go_enter func109,ntmps109
   go_wp2_with (go_at_call 108;refine (HC.o _).mono ?_;rintro o w1 ⟨rfl,rfl⟩);go_ret;exact⟨rfl,Zw.alloc pQ _⟩
  .have HC:Hid (∀ W,Calls Tp 108 #[frV e i r d a n cap,I J m] W fun o w'=>o = rT (I J (-1))/\W.alloc (frC e i r d a n cap 165)=w'):=by
    intro W;have:=dF W e i r d a n cap m hn hm;rw[qa h] at this;exact this
   rw[qa h];first | go_enter func107,ntmps107 | go_enter func109,ntmps109
   go_wp2_with (go_at_call 108;refine (HC.o _).mono ?_;rintro o w1 ⟨rfl,rfl⟩);go_ret;exact⟨rfl,Zw.alloc pQ _⟩
open Go.IntKind renaming i64->J,u32->Zk
section
variable {w w' W:Wd} {g o N B:Nat} {p:Wd->Prop}
structure R3 where
 e:Bool
 m:Int
 k:Int
structure at3 (w:Wd) (g o:Nat) (b:R3):Prop where
 c0:w.cell? ⟨g,o,nn⟩=sQ (bO b.e)
 c1:w.cell? ⟨g,o+1,nn⟩=sQ (I Zk b.m)
 c2:w.cell? ⟨g,o+2,nn⟩=sQ (I Zk b.k)
structure bj (w:Wd) (a:Option Addr) (n cap:Nat) (bs:List R3):Prop where
 len:n=bs.length
 cap:n<=cap
 cells:bs≠[]->∃ g off,a=sQ ⟨g,off,nn⟩/\∀ j (h:j<bs.length),at3 w g (off+j*3) bs[j]
def at3.below {b:R3} (h:at3 w g o b) (hb:Bl w w'):at3 w' g o b:=by
 have hg:=QC w _ h.c0;exact⟨(hb.cell (by exact hg)).trans h.c0,(hb.cell (by exact hg)).trans h.c1,(hb.cell (by exact hg)).trans h.c2⟩
def bj.below {a:Option Addr} {n cap:Nat} {bs:List R3} (h:bj w a n cap bs) (hb:Bl w w'):bj w' a n cap bs:=by
 refine⟨h.len,h.cap,fun hl=>?_⟩;obtain⟨g,off,ha,hc⟩:=h.cells hl;exact⟨g,off,ha,fun j hj=>(hc j hj).below hb⟩
def info180:(Tp.info? 180).map (fun i=>(i.zero,i.size,i.bytes))=sQ (sQ (aG #[bO false,I Zk 0,I Zk 0]),3,12):=kr
structure cu (w:Wd) (g N:Nat):Prop where
 cell:∀ t,t<N->∃ v,w.cell? ⟨g,t,nn⟩=sQ v
 free:∀ t,w.frozen? ⟨g,t,nn⟩=false
def fQ {ops:Array Oper} {rest:List Oper} {o:Oper} {a:Act} {Q:Exit->Act->Wd->Prop} (w:Wd) (T E:TypeId) (Z:Value) (sz by_:Nat) (hi0:(Tp.info? E).map (fun i=>(i.zero,i.size,i.bytes))=sQ (sQ Z,sz,by_)) (hu:Tp.underlying T=sQ (.slice E)) (hby:by_<=1000)
  (hg:o.guard=nn) (l c:Operand) (hop:o.op=Op.makeSlice T l c) (C:Int) (n:Nat) (hl:a.eval l = I J C) (hc:a.eval c = I J C) (hC:C=(n:Int)) (hn:n<=100000000)
  (hK:∀ w',cu w' w.heap.size (n*sz)->w.grownBy w' nn->w.heap.size<w'.heap.size->wpList Tp ops Q rest (a.put o.dst (sL (sQ ⟨w.heap.size,0,nn⟩) n n)) w') :
  wpList Tp ops Q (o :: rest) a w:=by
 obtain⟨i0,hi,hz0,hz1,hz2⟩:=QW hi0;have hmul:by_*n<=1000*n:=qC _ hby;refine wpList_make_full w hg l c T hop w.heap.size E i0 Z sz hu hi hz0 hz1 .i64 .i64 C C n hl hc hC hC (by rw[hz2];omega) (by unfold maxLen;omega) (nR _) ?_;intro w' ho hgr;refine hK w' ⟨fun t ht=>?_,fun t=>QU ho t⟩ hgr (QB ho _ rfl).2;rw[QY ho t om];have hlen:(madeCells Z.cells (n*sz)).toList.length=n*sz:=ho.1;exact⟨_,qy om⟩
def aQ (W:Wd) (g:Nat):Nat->List Value->Wd
 | _,[]=>W
 | p,v :: vs=>aQ (W.setCell ⟨g,p,nn⟩ v) g (p+1) vs
def rO (g:Nat):∀ (vs:List Value) (W:Wd) (p t:Nat),(t<p\/p+vs.length<=t)->(aQ W g p vs).cell? ⟨g,t,nn⟩=W.cell? ⟨g,t,nn⟩:=by
 intro vs;induction vs with
 | nil=>intro W p t _;rfl
 | cons v vs ih=>
  intro W p t h;simp only[Qa] at h;show (aQ (W.setCell ⟨g,p,nn⟩ v) g (p+1) vs).cell? _=_;rw[ih _ (p+1) t om,QG _ _ _ _ (by intro e;simp at e;try omega)]
def aI (g:Nat) (b:Nat) (hb:b≠g):∀ (vs:List Value) (W:Wd) (p:Nat),(aQ W g p vs).heap[b]?=W.heap[b]?:=by
 intro vs;induction vs with
 | nil=>intro W p;rfl
 | cons v vs ih=>intro W p;exact (ih _ (p+1)).trans (QA W ⟨g,p,nn⟩ b v hb)
def lV (g:Nat) (q:Addr):∀ (vs:List Value) (W:Wd) (p:Nat),(aQ W g p vs).frozen? q=W.frozen? q:=by
 intro vs;induction vs with
 | nil=>intro W p;rfl
 | cons v vs ih=>intro W p;rw[aQ,ih,Q0]
def bT (g B:Nat) (hB:B<=g) (w0:Wd):∀ (vs:List Value) (W:Wd) (p:Nat),Below B w0 W->Below B w0 (aQ W g p vs):=by
 intro vs;induction vs with
 | nil=>intro W p h;exact h
 | cons v vs ih=>intro W p h;exact ih _ _ (h.setCell (p:=⟨g,p,nn⟩) (by simpa using hB) v)
def aL (g:Nat):∀ (vs:List Value) (W:Wd) (p t:Nat) (ht:t<vs.length),(∃ u,W.cell? ⟨g,p+t,nn⟩=sQ u)->(aQ W g p vs).cell? ⟨g,p+t,nn⟩=sQ vs[t]:=by
 intro vs;induction vs with
 | nil=>intro W p t ht;cases ht
 | cons v vs ih=>
  intro W p t ht hu;cases t with
  | zero=>
   obtain⟨u,hu⟩:=hu;show (aQ (W.setCell ⟨g,p,nn⟩ v) g (p+1) vs).cell? ⟨g,p,nn⟩=sQ v;rw[rO g vs _ (p+1) p om];exact QS _ _ _ hu
  | succ t=>
   have e:p+(t+1)=p+1+t:=om;rw[e] at hu ⊢;refine ih _ (p+1) t (by simpa using ht) ?_;rw[QG _ _ _ _ (by intro e2;simp at e2;try omega)];exact hu
def aX (g:Nat):∀ (vs:List Value) (W:Wd) (p:Nat),(aQ W g p vs).heap.size=W.heap.size:=by
 intro vs;induction vs with
 | nil=>intro W p;rfl
 | cons v vs ih=>intro W p;rw[aQ,ih];simp
def cu.put (h:cu w g N) (vs:List Value) (p:Nat) (_hp:p+vs.length<=N):cu (aQ w g p vs) g N:=by
 refine⟨fun t ht=>?_,fun t=>by rw[lV];exact h.free t⟩;by_cases h1:t<p\/p+vs.length<=t
 .rw[rO g vs w p t h1];exact h.cell t ht
 .have e:t=p+(t-p):=om;have:=aL g vs w p (t-p) om (by rw[<- e];exact h.cell t ht);rw[<- e] at this;exact⟨_,this⟩
def cu.below (h:cu w g N) (hb:Bl w w') (hg:g<w.heap.size):cu w' g N:=
 ⟨fun t ht=>by obtain⟨v,hv⟩:=h.cell t ht;exact⟨v,(hb.cell (by exact hg)).trans hv⟩,fun t=>(hb.frozen (by exact hg)).trans (h.free t)⟩
def at3.keep {b:R3} (h:at3 w g o b) (vs:List Value) (p:Nat) (hp:o+3<=p\/p+vs.length<=o):at3 (aQ w g p vs) g o b:=
 ⟨(rO g vs w p o om).trans h.c0,(rO g vs w p (o+1) om).trans h.c1,(rO g vs w p (o+2) om).trans h.c2⟩
def at3.new (h:cu w g N) (p:Nat) (hp:p+3<=N) (b:R3):at3 (aQ w g p [bO b.e,I Zk b.m,I Zk b.k]) g p b:=
 ⟨aL g _ w p 0 pQ (h.cell p om),aL g _ w p 1 pQ (h.cell (p+1) om),aL g _ w p 2 pQ (h.cell (p+2) om)⟩
def St (B:Nat) (w:Wd) (p:Wd->Prop):Prop:=∀ W,(∀ k,B<=k->k<w.heap.size->W.heap[k]?=w.heap[k]?)->p W
def St.now (h:St B w p):p w:=h w fun _ _ _=>rfl
def St.below (h:St B w p) (hb:Bl w w'):St B w' p:=fun W hW=>h W fun k h1 h2=>(hW k h1 (nL h2 hb.size)).trans (hb.block k h2)
def St.set (h:St B w p) (b j:Nat) (hb:b<B) (v:Value):St B (w.setCell ⟨b,j,nn⟩ v) p:=fun W hW=>h W fun k h1 h2=>(hW k h1 (by simpa using h2)).trans (QA w ⟨b,j,nn⟩ k v (by show k≠b;omega))
def St.mono {B':Nat} (h:St B w p) (hB:B'<=B):St B' w p:=fun W hW=>h W fun k h1 h2=>hW k om h2
def cU {v:Value} (h:w.cell? ⟨g,o,nn⟩=sQ v) (he:W.heap[g]?=w.heap[g]?):W.cell? ⟨g,o,nn⟩=sQ v:=by
 simp only[World.cell?,he] at h ⊢;exact h
def at3.up {b:R3} (h:at3 w g o b) (he:W.heap[g]?=w.heap[g]?):at3 W g o b:=⟨cU h.c0 he,cU h.c1 he,cU h.c2 he⟩
def cu.F (h:cu w g N):az w g N:=fun t ht=>⟨h.cell t ht,h.free t⟩
def lP (w:Wd) (a:Option Addr) (n cap:Nat) (bs:List R3) (h:bj w a n cap bs) (hn:n<=1048576) :
  Calls Tp 75 #[sL a n cap] w fun e w'=>∃ g,e = rT (sL (sQ ⟨g,0,nn⟩) n n)/\St w.heap.size w' (fun W=>bj W (sQ ⟨g,0,nn⟩) n n bs/\az W g (n*3))/\(w.heap.size<=g/\g<w'.heap.size)/\Bl w w':=by
 have hlen:=h.len;have hcp:=h.cap;by_cases hl:bs=[]
 .subst hl;have hn0:n=0:=hlen;subst hn0;clear hlen h;go_enter func75,ntmps75;go_wp2_with (at_make;refine fQ _ 36 180 _ 3 12 info180 underlying36 (by decide) rfl (.tmp 6) (.tmp 6) rfl _ 0 rfl rfl rfl om ?_;intro w1 hrow hg1 hz1);go_loopw [4] (fun i wr=>i = I J 0/\Bl w wr/\w.heap.size<wr.heap.size) (fun _ _=>0);case atStart=>exact⟨rfl,(bW _ _).grown hg1 (nR _) (by intro k e;cases e),hz1⟩
  case round=>
   obtain⟨rfl,hb,hz⟩:=hrel;go_wp2;go_ret;exact⟨_,rfl,fun _ _=>⟨⟨rfl,nR _,fun e=>Qy rfl e⟩,fun t ht=>Qy ht om⟩,⟨nR _,hz⟩,hb⟩
 .obtain⟨g,off,rfl,hc⟩:=h.cells hl;have HL:Hid (n=bs.length):=hlen;have HC:Hid (∀ j (h:j<bs.length),at3 w g (off+j*3) bs[j]):=hc;have hgz:g<w.heap.size:=QC w _ (hc 0 (List.length_pos_iff.2 hl)).c0;clear h hlen hc;go_enter func75,ntmps75;go_wp2_with (at_make;refine fQ _ 36 180 _ 3 12 info180 underlying36 (by decide) rfl (.tmp 6) (.tmp 6) rfl _ n rfl rfl rfl om ?_;intro w1 hrow hg1 hz1);go_loopw [4] (fun i wr=>∃ k:Nat,k<=n/\i = I J k/\cu wr w.heap.size (n*3)/\(∀ j (hj:j<k) (h:j<bs.length),at3 wr w.heap.size (j*3) bs[j])/\Bl w wr/\w.heap.size<wr.heap.size) (fun i _=>n-(intOf i).toNat);case atStart=>exact⟨0,nZ _,rfl,hrow,fun j hj=>Qy hj (nN _),(bW _ _).grown hg1 (nR _) (by intro k e;cases e),hz1⟩
  case round=>
   clear hrow hz1 hg1;obtain⟨k,hk,rfl,hrow,hdone,hb,hz⟩:=hrel;by_cases hlt:k<n
   .have hkl:k<bs.length:=by have:=HL.o;omega
    have hx:=HC.o k hkl;have x0:=(hb.cell (by exact hgz)).trans hx.c0;have x1:=(hb.cell (by exact hgz)).trans hx.c1;have x2:=(hb.cell (by exact hgz)).trans hx.c2;have HD:Hid (∀ W,Bl wr W->cu W w.heap.size (n*3)/\(∀ j (hj:j<k) (h:j<bs.length),at3 W w.heap.size (j*3) bs[j])/\Bl w W/\w.heap.size<W.heap.size):=fun W hW=>⟨hrow.below hW hz,fun j hj hjl=>(hdone j hj hjl).below hW,hb.trans (hW.mono om),nL hz hW.size⟩
    clear hrow hdone hb hx;have hkn:k*3+3<=n*3:=om;have HB:Hid (∀ W,cu W w.heap.size (n*3)->at3 (aQ W w.heap.size (k*3) [bO bs[k].e,I Zk bs[k].m,I Zk bs[k].k]) w.heap.size (k*3) bs[k]):=fun W hW=>at3.new hW (k*3) hkn bs[k];generalize hB0:bs[k].e=e0 at *;generalize hB1:bs[k].m=m0 at *;generalize hB2:bs[k].k=k0 at *;clear hB0 hB1 hB2;go_wp2_with (go_at_call 127;refine (nG _ _ _ _).mono ?_;rintro o w5 ⟨rfl,hb5⟩;obtain⟨v0,z0⟩:=(HD.o w5 hb5).1.cell (k*3) om;obtain⟨v1,z1⟩:=(HD.o w5 hb5).1.cell (k*3+1) om;obtain⟨v2,z2⟩:=(HD.o w5 hb5).1.cell (k*3+2) om;have f0:=(HD.o w5 hb5).1.free (k*3);have f1:=(HD.o w5 hb5).1.free (k*3+1);have f2:=(HD.o w5 hb5).1.free (k*3+2));go_roundw;case rel=>
     obtain⟨r1,r2,r3,r4⟩:=HD.o w5 hb5;refine⟨k+1,om,by go_num,r1.put [bO e0,I Zk m0,I Zk k0] (k*3) hkn,fun j hj hjl=>?_,bT _ _ (nR _) w [bO e0,I Zk m0,I Zk k0] w5 (k*3) r3,?_⟩
     .by_cases e:j=k
      .subst e;exact HB.o w5 r1
      .exact (r2 j om hjl).keep [bO e0,I Zk m0,I Zk k0] (k*3) (by simp;omega)
     .simpa using r4
    case measure=>simp[intOf];omega
   .go_wp2;go_ret;refine⟨_,rfl,fun W hW=>⟨⟨HL.o,nR _,fun _=>⟨_,0,rfl,fun j hj=>?_⟩⟩,hrow.F.up (hW _ (nR _) hz)⟩,⟨nR _,hz⟩,hb⟩;have:=hdone j (by have:=HL.o;omega) hj;rw[qi];exact this.up (hW _ (nR _) hz)
end
section
variable {w w' W:World} {g o m c gd n cap M:Nat} {ao a:Option Addr}
structure R5 where
 e:Bool
 i:Nat
 r:Bool
 d:Int
 l:List Nat
structure at5 (w:World) (g o:Nat) (b:R5) (ao:Option Addr) (m c:Nat):Prop where
 c0:w.cell? ⟨g,o,nn⟩=sQ (bO b.e)
 c1:w.cell? ⟨g,o+1,nn⟩=sQ (I Zk (b.i:Int))
 c2:w.cell? ⟨g,o+2,nn⟩=sQ (bO b.r)
 c3:w.cell? ⟨g,o+3,nn⟩=sQ (I J b.d)
 cs:w.cell? ⟨g,o+4,nn⟩=sQ (sL ao m c)
 dat:iB w ao m c b.l
structure cl (w:World) (a:Option Addr) (n cap:Nat) (bs:List R5):Prop where
 len:n=bs.length
 cap:n<=cap
 cells:bs≠[]->∃ g off,a=sQ ⟨g,off,nn⟩/\∀ j (h:j<bs.length),∃ ao m c,at5 w g (off+j*5) bs[j] ao m c
def at5.below {b:R5} (h:at5 w g o b ao m c) (hb:Bl w w'):at5 w' g o b ao m c:=by
 have hg:=QC w _ h.c0;exact⟨(hb.cell (by exact hg)).trans h.c0,(hb.cell (by exact hg)).trans h.c1,(hb.cell (by exact hg)).trans h.c2,(hb.cell (by exact hg)).trans h.c3,(hb.cell (by exact hg)).trans h.cs,h.dat.below hb⟩
def cl.below {bs:List R5} (h:cl w a n cap bs) (hb:Bl w w'):cl w' a n cap bs:=by
 refine⟨h.len,h.cap,fun hl=>?_⟩;obtain⟨g,off,ha,hc⟩:=h.cells hl;exact⟨g,off,ha,fun j hj=>by obtain⟨ao,m,c,hat⟩:=hc j hj;exact⟨ao,m,c,hat.below hb⟩⟩
def at5.up {b:R5} (h:at5 w g o b (sQ ⟨gd,0,nn⟩) m c) (he:W.heap[g]?=w.heap[g]?) (hd:W.heap[gd]?=w.heap[gd]?):at5 W g o b (sQ ⟨gd,0,nn⟩) m c:=
 ⟨cU h.c0 he,cU h.c1 he,cU h.c2 he,cU h.c3 he,cU h.cs he,h.dat.other hd⟩
def at5.keep {b:R5} (h:at5 w g o b (sQ ⟨gd,0,nn⟩) m c) (hne:gd≠g) (vs:List Value) (p:Nat) (hp:o+5<=p\/p+vs.length<=o):at5 (aQ w g p vs) g o b (sQ ⟨gd,0,nn⟩) m c:=
 ⟨(rO g vs w p (o) om).trans h.c0,(rO g vs w p (o+1) om).trans h.c1,(rO g vs w p (o+2) om).trans h.c2,(rO g vs w p (o+3) om).trans h.c3,(rO g vs w p (o+4) om).trans h.cs,h.dat.other (aI g gd hne vs w p)⟩
def at5.new (h:cu w g M) (p:Nat) (hp:p+5<=M) (b:R5) (gd m:Nat) (hne:gd≠g) (hd:iB w (sQ ⟨gd,0,nn⟩) m m b.l):at5 (aQ w g p [bO b.e,I Zk (b.i:Int),bO b.r,I J b.d,sL (sQ ⟨gd,0,nn⟩) m m]) g p b (sQ ⟨gd,0,nn⟩) m m:=
 ⟨aL g _ w p 0 pQ (h.cell (p+0) om),aL g _ w p 1 pQ (h.cell (p+1) om),aL g _ w p 2 pQ (h.cell (p+2) om),aL g _ w p 3 pQ (h.cell (p+3) om),aL g _ w p 4 pQ (h.cell (p+4) om),hd.other (aI g gd hne _ w p)⟩
structure R8 where
 x:Int
 y:Int
 z:Int
 e:Bool
 i:Nat
 r:Bool
 d:Int
 l:List Nat
structure at8 (w:World) (g o:Nat) (b:R8) (ao:Option Addr) (m c:Nat):Prop where
 c0:w.cell? ⟨g,o,nn⟩=sQ (I J b.x)
 c1:w.cell? ⟨g,o+1,nn⟩=sQ (I J b.y)
 c2:w.cell? ⟨g,o+2,nn⟩=sQ (I J b.z)
 c3:w.cell? ⟨g,o+3,nn⟩=sQ (bO b.e)
 c4:w.cell? ⟨g,o+4,nn⟩=sQ (I Zk (b.i:Int))
 c5:w.cell? ⟨g,o+5,nn⟩=sQ (bO b.r)
 c6:w.cell? ⟨g,o+6,nn⟩=sQ (I J b.d)
 cs:w.cell? ⟨g,o+7,nn⟩=sQ (sL ao m c)
 dat:iB w ao m c b.l
structure aM (w:World) (a:Option Addr) (n cap:Nat) (bs:List R8):Prop where
 len:n=bs.length
 cap:n<=cap
 cells:bs≠[]->∃ g off,a=sQ ⟨g,off,nn⟩/\∀ j (h:j<bs.length),∃ ao m c,at8 w g (off+j*8) bs[j] ao m c
def at8.below {b:R8} (h:at8 w g o b ao m c) (hb:Bl w w'):at8 w' g o b ao m c:=by
 have hg:=QC w _ h.c0;exact⟨(hb.cell (by exact hg)).trans h.c0,(hb.cell (by exact hg)).trans h.c1,(hb.cell (by exact hg)).trans h.c2,(hb.cell (by exact hg)).trans h.c3,(hb.cell (by exact hg)).trans h.c4,(hb.cell (by exact hg)).trans h.c5,(hb.cell (by exact hg)).trans h.c6,(hb.cell (by exact hg)).trans h.cs,h.dat.below hb⟩
def aM.below {bs:List R8} (h:aM w a n cap bs) (hb:Bl w w'):aM w' a n cap bs:=by
 refine⟨h.len,h.cap,fun hl=>?_⟩;obtain⟨g,off,ha,hc⟩:=h.cells hl;exact⟨g,off,ha,fun j hj=>by obtain⟨ao,m,c,hat⟩:=hc j hj;exact⟨ao,m,c,hat.below hb⟩⟩
def at8.up {b:R8} (h:at8 w g o b (sQ ⟨gd,0,nn⟩) m c) (he:W.heap[g]?=w.heap[g]?) (hd:W.heap[gd]?=w.heap[gd]?):at8 W g o b (sQ ⟨gd,0,nn⟩) m c:=
 ⟨cU h.c0 he,cU h.c1 he,cU h.c2 he,cU h.c3 he,cU h.c4 he,cU h.c5 he,cU h.c6 he,cU h.cs he,h.dat.other hd⟩
def at8.keep {b:R8} (h:at8 w g o b (sQ ⟨gd,0,nn⟩) m c) (hne:gd≠g) (vs:List Value) (p:Nat) (hp:o+8<=p\/p+vs.length<=o):at8 (aQ w g p vs) g o b (sQ ⟨gd,0,nn⟩) m c:=
 ⟨(rO g vs w p (o) om).trans h.c0,(rO g vs w p (o+1) om).trans h.c1,(rO g vs w p (o+2) om).trans h.c2,(rO g vs w p (o+3) om).trans h.c3,(rO g vs w p (o+4) om).trans h.c4,(rO g vs w p (o+5) om).trans h.c5,(rO g vs w p (o+6) om).trans h.c6,(rO g vs w p (o+7) om).trans h.cs,h.dat.other (aI g gd hne vs w p)⟩
def at8.new (h:cu w g M) (p:Nat) (hp:p+8<=M) (b:R8) (gd m:Nat) (hne:gd≠g) (hd:iB w (sQ ⟨gd,0,nn⟩) m m b.l):at8 (aQ w g p [I J b.x,I J b.y,I J b.z,bO b.e,I Zk (b.i:Int),bO b.r,I J b.d,sL (sQ ⟨gd,0,nn⟩) m m]) g p b (sQ ⟨gd,0,nn⟩) m m:=
 ⟨aL g _ w p 0 pQ (h.cell (p+0) om),aL g _ w p 1 pQ (h.cell (p+1) om),aL g _ w p 2 pQ (h.cell (p+2) om),aL g _ w p 3 pQ (h.cell (p+3) om),aL g _ w p 4 pQ (h.cell (p+4) om),aL g _ w p 5 pQ (h.cell (p+5) om),aL g _ w p 6 pQ (h.cell (p+6) om),aL g _ w p 7 pQ (h.cell (p+7) om),hd.other (aI g gd hne _ w p)⟩
structure wr5 (B T:Nat) (W:World) (g n:Nat):Prop where
 row:az W g (n*5)
 lo:B<=g
 hi:g<T
 dat:∀ j,j<n->∃ gd m,W.cell? ⟨g,j*5+4,nn⟩=sQ (sL (sQ ⟨gd,0,nn⟩) m m)/\az W gd m/\gd≠g/\B<=gd/\gd<T
def info67:(Tp.info? 67).map (fun i=>(i.zero,i.size,i.bytes))=sQ (sQ (aG #[bO false,I Zk 0,bO false,I J 0,sL nn 0 0]),5,48):=kr
def nF (w:World) (a:Option Addr) (n cap:Nat) (bs:List R5) (h:cl w a n cap bs) (hn:n<=1048576) (hd:∀ j (h:j<bs.length),bs[j].l.length<=1048576) :
  Calls Tp 77 #[sL a n cap] w fun e w'=>∃ g,e = rT (sL (sQ ⟨g,0,nn⟩) n n)/\St w.heap.size w' (fun W=>cl W (sQ ⟨g,0,nn⟩) n n bs/\wr5 w.heap.size w'.heap.size W g n)/\Bl w w':=by
 have hlen:=h.len;have hcp:=h.cap;by_cases hl:bs=[]
 .subst hl;have hn0:n=0:=hlen;subst hn0;clear hlen h hd;go_enter func77,ntmps77;go_wp2_with (at_make;refine fQ _ 38 67 _ 5 48 info67 underlying38 (by decide) rfl (.tmp 6) (.tmp 6) rfl _ 0 rfl rfl rfl om ?_;intro w1 hrow hg1 hz1);go_loopw [4] (fun i wr=>i = I J 0/\Bl w wr/\w.heap.size<wr.heap.size) (fun _ _=>0);case atStart=>exact⟨rfl,(bW _ _).grown hg1 (nR _) (by intro k e;cases e),hz1⟩
  case round=>
   obtain⟨rfl,hb,hz⟩:=hrel;go_wp2;go_ret;exact⟨_,rfl,fun _ _=>⟨⟨rfl,nR _,fun e=>Qy rfl e⟩,⟨fun t ht=>Qy ht om,nR _,hz,fun j hj=>Qy hj (nN _)⟩⟩,hb⟩
 .obtain⟨g,off,rfl,hc⟩:=h.cells hl;have HL:Hid (n=bs.length):=hlen;have HC:Hid (∀ j (h:j<bs.length),∃ ao m c,at5 w g (off+j*5) bs[j] ao m c):=hc;have HD0:Hid (∀ j (h:j<bs.length),bs[j].l.length<=1048576):=hd;have hgz:g<w.heap.size:=by obtain⟨_,_,_,hat⟩:=hc 0 (List.length_pos_iff.2 hl);exact QC w _ hat.c0
  clear h hlen hc hd;go_enter func77,ntmps77;go_wp2_with (at_make;refine fQ _ 38 67 _ 5 48 info67 underlying38 (by decide) rfl (.tmp 6) (.tmp 6) rfl _ n rfl rfl rfl om ?_;intro w1 hrow hg1 hz1);go_loopw [4] (fun i wr=>∃ k:Nat,k<=n/\i = I J k/\cu wr w.heap.size (n*5)/\(∀ j (hj:j<k) (h:j<bs.length),∃ gd m,(w.heap.size<gd/\gd<wr.heap.size)/\at5 wr w.heap.size (j*5) bs[j] (sQ ⟨gd,0,nn⟩) m m/\az wr gd m)/\Bl w wr/\w.heap.size<wr.heap.size) (fun i _=>n-(intOf i).toNat);case atStart=>exact⟨0,nZ _,rfl,hrow,fun j hj=>Qy hj (nN _),(bW _ _).grown hg1 (nR _) (by intro k e;cases e),hz1⟩
  case round=>
   clear hrow hz1 hg1;obtain⟨k,hk,rfl,hrow,hdone,hb,hz⟩:=hrel;by_cases hlt:k<n
   .have hkl:k<bs.length:=by have:=HL.o;omega
    obtain⟨ao,m0,c0,hx⟩:=HC.o k hkl;have cx0:=(hb.cell (by exact hgz)).trans hx.c0;have cx1:=(hb.cell (by exact hgz)).trans hx.c1;have cx2:=(hb.cell (by exact hgz)).trans hx.c2;have cx3:=(hb.cell (by exact hgz)).trans hx.c3;have cx4:=(hb.cell (by exact hgz)).trans hx.cs;have hm0:m0<=1048576:=by have:=HD0.o k hkl;have:=hx.dat.len;omega
    have HY:Hid (iB wr ao m0 c0 bs[k].l):=hx.dat.below hb;have HD:Hid (∀ W,Bl wr W->cu W w.heap.size (n*5)/\(∀ j (hj:j<k) (h:j<bs.length),∃ gd m,(w.heap.size<gd/\gd<W.heap.size)/\at5 W w.heap.size (j*5) bs[j] (sQ ⟨gd,0,nn⟩) m m/\az W gd m)/\Bl w W/\w.heap.size<W.heap.size):=fun W hW=>⟨hrow.below hW hz,fun j hj hjl=>by obtain⟨gd,m,h1,h2,h3⟩:=hdone j hj hjl;exact⟨gd,m,⟨h1.1,nL h1.2 hW.size⟩,h2.below hW,h3.up (hW.block _ h1.2)⟩,hb.trans (hW.mono om),nL hz hW.size⟩
    clear hrow hdone hb hx;have hkn:k*5+5<=n*5:=om;have HB:Hid (∀ W gd,gd≠w.heap.size->iB W (sQ ⟨gd,0,nn⟩) m0 m0 bs[k].l->cu W w.heap.size (n*5)->at5 (aQ W w.heap.size (k*5) [bO bs[k].e,I Zk (bs[k].i:Int),bO bs[k].r,I J bs[k].d,sL (sQ ⟨gd,0,nn⟩) m0 m0]) w.heap.size (k*5) bs[k] (sQ ⟨gd,0,nn⟩) m0 m0):=fun W gd h1 h2 hW=>at5.new hW (k*5) hkn bs[k] gd m0 h1 h2;generalize hBe:bs[k].e=fe at *;generalize hBi:bs[k].i=fi at *;generalize hBr:bs[k].r=fr at *;generalize hBd:bs[k].d=fd at *;clear hBe hBi hBr hBd;go_wp2_with (go_at_call 129;refine (gY _ fe fi fr fd ao m0 c0 bs[k].l HY.o hm0).mono ?_;rintro o w5 ⟨gd,rfl,hby,hb5,hgd,hgz5,hrf5⟩;have HRF:Hid (az w5 gd m0):=hrf5;clear hrf5;obtain⟨cv0,cz0⟩:=(HD.o w5 hb5).1.cell (k*5) om;have cf0:=(HD.o w5 hb5).1.free (k*5);obtain⟨cv1,cz1⟩:=(HD.o w5 hb5).1.cell (k*5+1) om;have cf1:=(HD.o w5 hb5).1.free (k*5+1);obtain⟨cv2,cz2⟩:=(HD.o w5 hb5).1.cell (k*5+2) om;have cf2:=(HD.o w5 hb5).1.free (k*5+2);obtain⟨cv3,cz3⟩:=(HD.o w5 hb5).1.cell (k*5+3) om;have cf3:=(HD.o w5 hb5).1.free (k*5+3);obtain⟨cv4,cz4⟩:=(HD.o w5 hb5).1.cell (k*5+4) om;have cf4:=(HD.o w5 hb5).1.free (k*5+4));go_roundw;case rel=>
     skip;skip;skip;obtain⟨r1,r2,r3,r4⟩:=HD.o w5 hb5
     have hne:gd≠w.heap.size:=om;refine⟨k+1,om,by go_num,r1.put [bO fe,I Zk (fi:Int),bO fr,I J fd,sL (sQ ⟨gd,0,nn⟩) m0 m0] (k*5) hkn,fun j hj hjl=>?_,bT _ _ (nR _) w [bO fe,I Zk (fi:Int),bO fr,I J fd,sL (sQ ⟨gd,0,nn⟩) m0 m0] w5 (k*5) r3,?_⟩
     .by_cases e:j=k
      .subst e;exact⟨gd,m0,⟨om,by first | (rw[aX];exact hgz5) | simpa using hgz5⟩,HB.o w5 gd hne hby r1,HRF.o.up (aI w.heap.size gd hne [bO fe,I Zk (fi:Int),bO fr,I J fd,sL (sQ ⟨gd,0,nn⟩) m0 m0] w5 (j*5))⟩
      .obtain⟨gd',m',h1,h2,h3⟩:=r2 j om hjl;exact⟨gd',m',⟨h1.1,by first | (rw[aX];exact h1.2) | simpa using h1.2⟩,h2.keep om [bO fe,I Zk (fi:Int),bO fr,I J fd,sL (sQ ⟨gd,0,nn⟩) m0 m0] (k*5) (by simp;omega),h3.up (aI w.heap.size gd' om [bO fe,I Zk (fi:Int),bO fr,I J fd,sL (sQ ⟨gd,0,nn⟩) m0 m0] w5 (k*5))⟩
     .first | (rw[aX];exact r4) | simpa using r4
    case measure=>simp[intOf];omega
   .go_wp2;go_ret;refine⟨_,rfl,fun W hW=>⟨⟨HL.o,nR _,fun _=>⟨_,0,rfl,fun j hj=>?_⟩⟩,⟨hrow.F.up (hW _ (nR _) hz),nR _,hz,fun j hj=>?_⟩⟩,hb⟩
    .obtain⟨gd,m,hgd,hat,_⟩:=hdone j (by have:=HL.o;omega) hj;rw[qi];exact⟨_,_,_,hat.up (hW _ (nR _) hz) (hW _ om hgd.2)⟩
    .obtain⟨gd,m,hgd,hat,hrf⟩:=hdone j om (by have:=HL.o;omega);exact⟨gd,m,(hat.up (hW _ (nR _) hz) (hW _ om hgd.2)).cs,hrf.up (hW _ om hgd.2),om,om,hgd.2⟩
end
def aU (g:Nat):∀ (vs:List Value) (w:World) (p:Nat),w.setCells g p vs=aQ w g p vs:=by
 intro vs;induction vs with
 | nil=>intro w p;rfl
 | cons v vs ih=>intro w p;exact ih _ (p+1)
def cu.there {w:World} {g N:Nat} (h:cu w g N) (p n:Nat) (hp:p+n<=N):w.there g p n:=fun j hj=>by
 obtain⟨v,hv⟩:=h.cell (p+j) om;exact⟨by rw[hv];rfl,h.free _⟩
def sT (x y z:Int) (e:Bool) (i:Int) (r:Bool) (d:Int) (a:Option Addr) (n c:Nat):(#[I J x,I J y,I J z,bO e,I Zk i,bO r,I J d,sL a n c]:Array Value).all (·.oneCell')=true:=
 QK (by simp[Value.oneCell'])
structure wr8 (B T:Nat) (W:World) (g n:Nat):Prop where
 row:az W g (n*8)
 lo:B<=g
 hi:g<T
 dat:∀ j,j<n->∃ gd m,W.cell? ⟨g,j*8+7,nn⟩=sQ (sL (sQ ⟨gd,0,nn⟩) m m)/\az W gd m/\gd≠g/\B<=gd/\gd<T
def fG:(Tp.info? 116).map (·.size)=sQ 8:=kr
def Gl:(Tp.info? 175).map (·.size)=sQ 8:=kr
def info175:(Tp.info? 175).map (fun i=>(i.zero,i.size,i.bytes))=sQ (sQ (aG #[I J 0,I J 0,I J 0,bO false,I Zk 0,bO false,I J 0,sL nn 0 0]),8,72):=kr
def info116:(Tp.info? 116).map (fun i=>(i.zero,i.size,i.bytes))=sQ (sQ (aG #[I J 0,I J 0,I J 0,bO false,I Zk 0,bO false,I J 0,sL nn 0 0]),8,72):=kr
def Nj {F:FuncId} (w:World) (a:Option Addr) (n cap:Nat) (bs:List R8) (h:aM w a n cap bs) (hn:n<=1048576) (hd:∀ j (h:j<bs.length),bs[j].l.length<=1048576) (hF:F=76\/F=78:=by decide) :
  Calls Tp F #[sL a n cap] w fun e w'=>∃ g,e = rT (sL (sQ ⟨g,0,nn⟩) n n)/\St w.heap.size w' (fun W=>aM W (sQ ⟨g,0,nn⟩) n n bs/\wr8 w.heap.size w'.heap.size W g n)/\Bl w w':=by
 rcases hF with rfl|rfl;all_goals
  have hlen:=h.len;have hcp:=h.cap;by_cases hl:bs=[]
  .subst hl;have hn0:n=0:=hlen;subst hn0;clear hlen h hd;first | go_enter func76,ntmps76 | go_enter func78,ntmps78
   go_wp2_with (at_make;(first | refine fQ _ 37 116 _ 8 72 info116 underlying37 (by decide) rfl (.tmp 6) (.tmp 6) rfl _ 0 rfl rfl rfl om ?_ | refine fQ _ 39 175 _ 8 72 info175 underlying39 (by decide) rfl (.tmp 6) (.tmp 6) rfl _ 0 rfl rfl rfl om ?_);intro w1 hrow hg1 hz1);go_loopw [4] (fun i wr=>i = I J 0/\Bl w wr/\w.heap.size<wr.heap.size) (fun _ _=>0);case atStart=>exact⟨rfl,(bW _ _).grown hg1 (nR _) (by intro k e;cases e),hz1⟩
   case round=>
    obtain⟨rfl,hb,hz⟩:=hrel;go_wp2;go_ret;exact⟨_,rfl,fun _ _=>⟨⟨rfl,nR _,fun e=>Qy rfl e⟩,⟨fun t ht=>Qy ht om,nR _,hz,fun j hj=>Qy hj (nN _)⟩⟩,hb⟩
  .obtain⟨g,off,rfl,hc⟩:=h.cells hl;have HL:Hid (n=bs.length):=hlen;have HC:Hid (∀ j (h:j<bs.length),∃ ao m c,at8 w g (off+j*8) bs[j] ao m c):=hc;have HD0:Hid (∀ j (h:j<bs.length),bs[j].l.length<=1048576):=hd;have hgz:g<w.heap.size:=by obtain⟨_,_,_,hat⟩:=hc 0 (List.length_pos_iff.2 hl);exact QC w _ hat.c0
   clear h hlen hc hd;first | go_enter func76,ntmps76 | go_enter func78,ntmps78
   go_wp2_with (at_make;(first | refine fQ _ 37 116 _ 8 72 info116 underlying37 (by decide) rfl (.tmp 6) (.tmp 6) rfl _ n rfl rfl rfl om ?_ | refine fQ _ 39 175 _ 8 72 info175 underlying39 (by decide) rfl (.tmp 6) (.tmp 6) rfl _ n rfl rfl rfl om ?_);intro w1 hrow hg1 hz1);go_loopw [4] (fun i wr=>∃ k:Nat,k<=n/\i = I J k/\cu wr w.heap.size (n*8)/\(∀ j (hj:j<k) (h:j<bs.length),∃ gd m,(w.heap.size<gd/\gd<wr.heap.size)/\at8 wr w.heap.size (j*8) bs[j] (sQ ⟨gd,0,nn⟩) m m/\az wr gd m)/\Bl w wr/\w.heap.size<wr.heap.size) (fun i _=>n-(intOf i).toNat);case atStart=>exact⟨0,nZ _,rfl,hrow,fun j hj=>Qy hj (nN _),(bW _ _).grown hg1 (nR _) (by intro k e;cases e),hz1⟩
   case round=>
    clear hrow hz1 hg1;obtain⟨k,hk,rfl,hrow,hdone,hb,hz⟩:=hrel;by_cases hlt:k<n
    .have hkl:k<bs.length:=by have:=HL.o;omega
     obtain⟨ao,m0,c0,hx⟩:=HC.o k hkl;have cx0:=(hb.cell (by exact hgz)).trans hx.c0;have cx1:=(hb.cell (by exact hgz)).trans hx.c1;have cx2:=(hb.cell (by exact hgz)).trans hx.c2;have cx3:=(hb.cell (by exact hgz)).trans hx.c3;have cx4:=(hb.cell (by exact hgz)).trans hx.c4;have cx5:=(hb.cell (by exact hgz)).trans hx.c5;have cx6:=(hb.cell (by exact hgz)).trans hx.c6;have cx7:=(hb.cell (by exact hgz)).trans hx.cs;have hm0:m0<=1048576:=by have:=HD0.o k hkl;have:=hx.dat.len;omega
     have HY:Hid (iB wr ao m0 c0 bs[k].l):=hx.dat.below hb;have HD:Hid (∀ W,Bl wr W->cu W w.heap.size (n*8)/\(∀ j (hj:j<k) (h:j<bs.length),∃ gd m,(w.heap.size<gd/\gd<W.heap.size)/\at8 W w.heap.size (j*8) bs[j] (sQ ⟨gd,0,nn⟩) m m/\az W gd m)/\Bl w W/\w.heap.size<W.heap.size):=fun W hW=>⟨hrow.below hW hz,fun j hj hjl=>by obtain⟨gd,m,h1,h2,h3⟩:=hdone j hj hjl;exact⟨gd,m,⟨h1.1,nL h1.2 hW.size⟩,h2.below hW,h3.up (hW.block _ h1.2)⟩,hb.trans (hW.mono om),nL hz hW.size⟩
     clear hrow hdone hb hx;have hkn:k*8+8<=n*8:=om;have HB:Hid (∀ W gd,gd≠w.heap.size->iB W (sQ ⟨gd,0,nn⟩) m0 m0 bs[k].l->cu W w.heap.size (n*8)->at8 (aQ W w.heap.size (k*8) [I J bs[k].x,I J bs[k].y,I J bs[k].z,bO bs[k].e,I Zk (bs[k].i:Int),bO bs[k].r,I J bs[k].d,sL (sQ ⟨gd,0,nn⟩) m0 m0]) w.heap.size (k*8) bs[k] (sQ ⟨gd,0,nn⟩) m0 m0):=fun W gd h1 h2 hW=>at8.new hW (k*8) hkn bs[k] gd m0 h1 h2;generalize hBx:bs[k].x=fx at *;generalize hBy:bs[k].y=fy at *;generalize hBz:bs[k].z=fz at *;generalize hBe:bs[k].e=fe at *;generalize hBi:bs[k].i=fi at *;generalize hBr:bs[k].r=fr at *;generalize hBd:bs[k].d=fd at *;clear hBx hBy hBz hBe hBi hBr hBd;go_wp2_with (first | ((first | go_at_call 128 | go_at_call 130);refine (Nn _ fx fy fz fe fi fr fd ao m0 c0 bs[k].l HY.o hm0).mono ?_;rintro o w5 ⟨gd,rfl,hby,hb5,hgd,hgz5,hrf5⟩;have HRF:Hid (az w5 gd m0):=hrf5;clear hrf5;have r1:=(HD.o w5 hb5).1) | (refine QD (P:=Tp) rfl _ (.tmp 21) (.tmp 20) rfl w.heap.size (k*8) #[I J fx,I J fy,I J fz,bO fe,I Zk (fi:Int),bO fr,I J fd,sL (sQ ⟨gd,0,nn⟩) m0 m0] rfl rfl (r1.there (k*8) 8 hkn) (by first | exact fG | exact Gl) (sT _ _ _ _ _ _ _ _ _ _) ?_;generalize hW6:World.setCells w5 w.heap.size (k*8) _=w6;have HW6:Hid (_=w6):=hW6;clear hW6));go_roundw;case rel=>
      have hw6:=HW6.o;rw[aU] at hw6;subst hw6;obtain⟨r1,r2,r3,r4⟩:=HD.o w5 hb5;have hne:gd≠w.heap.size:=om;refine⟨k+1,om,by go_num,r1.put [I J fx,I J fy,I J fz,bO fe,I Zk (fi:Int),bO fr,I J fd,sL (sQ ⟨gd,0,nn⟩) m0 m0] (k*8) hkn,fun j hj hjl=>?_,bT _ _ (nR _) w [I J fx,I J fy,I J fz,bO fe,I Zk (fi:Int),bO fr,I J fd,sL (sQ ⟨gd,0,nn⟩) m0 m0] w5 (k*8) r3,?_⟩
      .by_cases e:j=k
       .subst e;exact⟨gd,m0,⟨om,by first | (rw[aX];exact hgz5) | simpa using hgz5⟩,HB.o w5 gd hne hby r1,HRF.o.up (aI w.heap.size gd hne [I J fx,I J fy,I J fz,bO fe,I Zk (fi:Int),bO fr,I J fd,sL (sQ ⟨gd,0,nn⟩) m0 m0] w5 (j*8))⟩
       .obtain⟨gd',m',h1,h2,h3⟩:=r2 j om hjl;exact⟨gd',m',⟨h1.1,by first | (rw[aX];exact h1.2) | simpa using h1.2⟩,h2.keep om [I J fx,I J fy,I J fz,bO fe,I Zk (fi:Int),bO fr,I J fd,sL (sQ ⟨gd,0,nn⟩) m0 m0] (k*8) (by simp;omega),h3.up (aI w.heap.size gd' om [I J fx,I J fy,I J fz,bO fe,I Zk (fi:Int),bO fr,I J fd,sL (sQ ⟨gd,0,nn⟩) m0 m0] w5 (k*8))⟩
      .first | (rw[aX];exact r4) | simpa using r4
     case measure=>simp[intOf];omega
    .go_wp2;go_ret;refine⟨_,rfl,fun W hW=>⟨⟨HL.o,nR _,fun _=>⟨_,0,rfl,fun j hj=>?_⟩⟩,⟨hrow.F.up (hW _ (nR _) hz),nR _,hz,fun j hj=>?_⟩⟩,hb⟩
     .obtain⟨gd,m,hgd,hat,_⟩:=hdone j (by have:=HL.o;omega) hj;rw[qi];exact⟨_,_,_,hat.up (hW _ (nR _) hz) (hW _ om hgd.2)⟩
     .obtain⟨gd,m,hgd,hat,hrf⟩:=hdone j om (by have:=HL.o;omega);exact⟨gd,m,(hat.up (hW _ (nR _) hz) (hW _ om hgd.2)).cs,hrf.up (hW _ om hgd.2),om,om,hgd.2⟩
section
variable {w w' X:World}
structure Ho where
 c0:Int
 c1:Int
 c2:Int
 c3:Int
 fs:List R3
 bx:List R8
 ff:List R5
 qu:List R8
 lo:Int
 st:Int
structure Sl where
 a1:Option Addr
 n1:Nat
 k1:Nat
 a2:Option Addr
 n2:Nat
 k2:Nat
 a3:Option Addr
 n3:Nat
 k3:Nat
 a4:Option Addr
 n4:Nat
 k4:Nat
structure aK (w:World) (H:Ho) (s:Sl):Prop where
 fs:bj w s.a1 s.n1 s.k1 H.fs
 bx:aM w s.a2 s.n2 s.k2 H.bx
 ff:cl w s.a3 s.n3 s.k3 H.ff
 qu:aM w s.a4 s.n4 s.k4 H.qu
def aK.below {H:Ho} {s:Sl} (h:aK w H s) (hb:Bl w w'):aK w' H s:=⟨h.fs.below hb,h.bx.below hb,h.ff.below hb,h.qu.below hb⟩
structure Ho.le (H:Ho) (m:Nat):Prop where
 fs:H.fs.length<=m
 bx:H.bx.length<=m
 ff:H.ff.length<=m
 qu:H.qu.length<=m
 bd:∀ j (h:j<H.bx.length),H.bx[j].l.length<=m
 fd:∀ j (h:j<H.ff.length),H.ff[j].l.length<=m
 qd:∀ j (h:j<H.qu.length),H.qu[j].l.length<=m
abbrev hoV (H:Ho) (s:Sl):Value:=aG #[I J H.c0,I J H.c1,I J H.c2,I J H.c3,sL s.a1 s.n1 s.k1,sL s.a2 s.n2 s.k2,sL s.a3 s.n3 s.k3,sL s.a4 s.n4 s.k4,I J H.lo,I J H.st]
structure sd (b:Nat) (X w':World):Prop where
 cp:∀ o,w'.cell? ⟨b,o,nn⟩=X.cell? ⟨b,o,nn⟩
 cr:∀ o,w'.cell? ⟨b+1,o,nn⟩=X.cell? ⟨b+1,o,nn⟩
 co:∀ o,w'.cell? ⟨b+1+1,o,nn⟩=X.cell? ⟨b+1+1,o,nn⟩
 fr:∀ o,w'.frozen? ⟨b+1,o,nn⟩=X.frozen? ⟨b+1,o,nn⟩
 fo:∀ o,w'.frozen? ⟨b+1+1,o,nn⟩=X.frozen? ⟨b+1+1,o,nn⟩
def rk {b:Nat} (hb:Bl X w') (hz:b+3<=X.heap.size):sd b X w':=
 ⟨fun o=>hb.cell (p:=⟨b,o,nn⟩) (by show b<_;omega),fun o=>hb.cell (p:=⟨b+1,o,nn⟩) (by show b+1<_;omega),fun o=>hb.cell (p:=⟨b+1+1,o,nn⟩) (by show b+1+1<_;omega),fun o=>hb.frozen (p:=⟨b+1,o,nn⟩) (by show b+1<_;omega),fun o=>hb.frozen (p:=⟨b+1+1,o,nn⟩) (by show b+1+1<_;omega)⟩
def uc (hX:Bl w X) (hz:w.heap.size+3<=X.heap.size) {a:Option Addr} {n cap:Nat} {bs:List R3} (h:bj w a n cap bs) (hn:bs.length<=1048576) :
  Calls Tp 75 #[sL a n cap] X fun e w'=>∃ g,e = rT (sL (sQ ⟨g,0,nn⟩) n n)/\St (w.heap.size+3) w' (fun W=>bj W (sQ ⟨g,0,nn⟩) n n bs/\az W g (n*3))/\(w.heap.size<=g/\g<w'.heap.size)/\Bl X w'/\Bl w w'/\w.heap.size+3<=w'.heap.size/\sd w.heap.size X w':=by
 refine (lP X a n cap bs (h.below hX) (by have:=h.len;omega)).mono ?_;rintro e w' ⟨g,rfl,h1,h3,h2⟩;exact⟨g,rfl,h1.mono hz,⟨nT hX.size h3.1,h3.2⟩,h2,hX.trans (h2.mono hX.size),nT hz h2.size,rk h2 hz⟩
end
def nK (w:World) (a:Option Addr) (n cap:Nat) (bs:List R5) (h:cl w a n cap bs) (m:Nat) (hm:m<=1048576) (hn:n<=9223372036854775807) (hd:∀ j (h:j<bs.length),bs[j].l.length<=9223372036854775807) :
  Calls Tp 45 #[sL a n cap,I J (m:Int)] w fun o w'=>∃ z:Int,o = rT (I J z)/\Bl w w'/\(z = -1\/∃ m':Nat,z=(m':Int)/\m'<=m/\n<=m/\∀ j (h:j<bs.length),bs[j].l.length<=m):=by
 have hlen:=h.len;have hcp:=h.cap;by_cases hnm:n<=m
 .by_cases hl:bs=[]
  .subst hl;have hn0:n=0:=hlen;subst hn0;clear hlen h hd;go_enter func45,ntmps45;go_wp2;go_loopw [1,5] (fun lf i wr=>i = I J 0/\lf = I J (m:Int)/\wr=w) (fun _ _ _=>0);case atStart=>exact⟨rfl,rfl,rfl⟩
   case round=>
    obtain⟨rfl,rfl,rfl⟩:=hrel;go_wp2;go_ret;exact⟨_,rfl,bW _ _,.inr ⟨m,rfl,nR _,om,fun j hj=>by cases hj⟩⟩
  .obtain⟨g,off,rfl,hc⟩:=h.cells hl;have HL:Hid (n=bs.length):=hlen;have HC:Hid (∀ j (h:j<bs.length),∃ ao m c,at5 w g (off+j*5) bs[j] ao m c):=hc;have HD:Hid (∀ j (h:j<bs.length),bs[j].l.length<=9223372036854775807):=hd;have hnz:¬ (m:Int)-(n:Int)<0:=om;clear h hlen hc hd;go_enter func45,ntmps45;go_wp2;go_loopw [1,5] (fun lf i wr=>∃ k m':Nat,k<=n/\i = I J (k:Int)/\lf = I J (m':Int)/\m'<=m/\Bl w wr/\∀ j (hj:j<k) (h:j<bs.length),bs[j].l.length<=m) (fun _ i _=>n-(intOf i).toNat);case atStart=>exact⟨0,m-n,nZ _,rfl,by go_num,om,bW _ _,fun j hj=>Qy hj (nN _)⟩
   case round=>
    obtain⟨k,m',hk,rfl,rfl,hm',hb,hdone⟩:=hrel;by_cases hlt:k<n
    .have hkl:k<bs.length:=by have:=HL.o;omega
     obtain⟨ao,m0,c0,hx⟩:=HC.o k hkl;have hgz:=QC w _ hx.c0;have cx0:=(hb.cell (by exact hgz)).trans hx.c0;have cx1:=(hb.cell (by exact hgz)).trans hx.c1;have cx2:=(hb.cell (by exact hgz)).trans hx.c2;have cx3:=(hb.cell (by exact hgz)).trans hx.c3;have cxs:=(hb.cell (by exact hgz)).trans hx.cs;have hm0:m0<=9223372036854775807:=by have:=HD.o k hkl;have:=hx.dat.len;omega
     have HM:Hid (m0=bs[k].l.length):=hx.dat.len;have HB:Hid (Bl w wr):=hb;have HDN:Hid (∀ j (hj:j<k) (h:j<bs.length),bs[j].l.length<=m):=hdone;clear hx hb hdone;generalize hBe:bs[k].e=ge at *;generalize hBi:bs[k].i=gi at *;generalize hBr:bs[k].r=gr at *;generalize hBd:bs[k].d=gd at *;clear hBe hBi hBr hBd;by_cases hle:(m0:Int)<=(m':Int)
     .have HE:Hid (∀ W,Calls Tp 108 #[frV ge gi gr gd ao m0 c0,I J (m':Int)] W fun o w'=>o = rT (I J ((m':Int)-(m0:Int)))/\W.alloc (frC ge gi gr gd ao m0 c0 165)=w'):=by
       intro W;have:=dF W ge gi gr gd ao m0 c0 m' hm0 om;rw[qc hle] at this;exact this
      have hnz2:¬ (m':Int)-(m0:Int)<0:=om;go_wp2_with (go_at_call 108;refine (HE.o _).mono ?_;rintro o w5 ⟨rfl,rfl⟩);go_roundw;case rel=>
       refine⟨k+1,m'-m0,om,by go_num,by go_num,om,HB.o.trans (Zw.mono HB.o.size),fun j hj hjl=>?_⟩;by_cases e:j=k
       .subst e;have:=HM.o;omega
       .exact HDN.o j om hjl
      case measure=>simp[intOf];omega
     .have HE:Hid (∀ W,Calls Tp 108 #[frV ge gi gr gd ao m0 c0,I J (m':Int)] W fun o w'=>o = rT (I J (-1))/\W.alloc (frC ge gi gr gd ao m0 c0 165)=w'):=by
       intro W;have:=dF W ge gi gr gd ao m0 c0 m' hm0 om;rw[qa hle] at this;exact this
      go_wp2_with (go_at_call 108;refine (HE.o _).mono ?_;rintro o w5 ⟨rfl,rfl⟩);go_ret;exact⟨-1,rfl,HB.o.trans (Zw.mono HB.o.size),.inl rfl⟩
    .go_wp2;go_ret;exact⟨_,rfl,hb,.inr ⟨m',rfl,hm',hnm,fun j hj=>hdone j (by have:=HL.o;omega) hj⟩⟩
 .have hneg:(m:Int)-(n:Int)<0:=om;have hd2:decide ((m:Int)-(n:Int)<0)=true:=by simpa using hneg
  clear h hd hlen;go_enter func45,ntmps45;go_wp2;go_ret;exact⟨-1,rfl,bW _ _,.inl rfl⟩
def Nk {F:FuncId} (w:World) (a:Option Addr) (n cap:Nat) (bs:List R8) (h:aM w a n cap bs) (m:Nat) (hm:m<=1048576) (hn:n<=9223372036854775807) (hd:∀ j (h:j<bs.length),bs[j].l.length<=9223372036854775807) (hF:F=44\/F=46:=by decide) :
  Calls Tp F #[sL a n cap,I J (m:Int)] w fun o w'=>∃ z:Int,o = rT (I J z)/\Bl w w'/\(z = -1\/∃ m':Nat,z=(m':Int)/\m'<=m/\n<=m/\∀ j (h:j<bs.length),bs[j].l.length<=m):=by
 rcases hF with rfl|rfl;all_goals
  have hlen:=h.len;have hcp:=h.cap;by_cases hnm:n<=m
  .by_cases hl:bs=[]
   .subst hl;have hn0:n=0:=hlen;subst hn0;clear hlen h hd;first | go_enter func44,ntmps44 | go_enter func46,ntmps46
    go_wp2;go_loopw [1,5] (fun lf i wr=>i = I J 0/\lf = I J (m:Int)/\wr=w) (fun _ _ _=>0);case atStart=>exact⟨rfl,rfl,rfl⟩
    case round=>
     obtain⟨rfl,rfl,rfl⟩:=hrel;go_wp2;go_ret;exact⟨_,rfl,bW _ _,.inr ⟨m,rfl,nR _,om,fun j hj=>by cases hj⟩⟩
   .obtain⟨g,off,rfl,hc⟩:=h.cells hl;have HL:Hid (n=bs.length):=hlen;have HC:Hid (∀ j (h:j<bs.length),∃ ao m c,at8 w g (off+j*8) bs[j] ao m c):=hc;have HD:Hid (∀ j (h:j<bs.length),bs[j].l.length<=9223372036854775807):=hd;have hnz:¬ (m:Int)-(n:Int)<0:=om;clear h hlen hc hd;first | go_enter func44,ntmps44 | go_enter func46,ntmps46
    go_wp2;go_loopw [1,5] (fun lf i wr=>∃ k m':Nat,k<=n/\i = I J (k:Int)/\lf = I J (m':Int)/\m'<=m/\Bl w wr/\∀ j (hj:j<k) (h:j<bs.length),bs[j].l.length<=m) (fun _ i _=>n-(intOf i).toNat);case atStart=>exact⟨0,m-n,nZ _,rfl,by go_num,om,bW _ _,fun j hj=>Qy hj (nN _)⟩
    case round=>
     obtain⟨k,m',hk,rfl,rfl,hm',hb,hdone⟩:=hrel;by_cases hlt:k<n
     .have hkl:k<bs.length:=by have:=HL.o;omega
      obtain⟨ao,m0,c0,hx⟩:=HC.o k hkl;have hgz:=QC w _ hx.c0;have cx0:=(hb.cell (by exact hgz)).trans hx.c0;have cx1:=(hb.cell (by exact hgz)).trans hx.c1;have cx2:=(hb.cell (by exact hgz)).trans hx.c2;have cx3:=(hb.cell (by exact hgz)).trans hx.c3;have cx4:=(hb.cell (by exact hgz)).trans hx.c4;have cx5:=(hb.cell (by exact hgz)).trans hx.c5;have cx6:=(hb.cell (by exact hgz)).trans hx.c6;have cxs:=(hb.cell (by exact hgz)).trans hx.cs;have hm0:m0<=9223372036854775807:=by have:=HD.o k hkl;have:=hx.dat.len;omega
      have HM:Hid (m0=bs[k].l.length):=hx.dat.len;have HB:Hid (Bl w wr):=hb;have HDN:Hid (∀ j (hj:j<k) (h:j<bs.length),bs[j].l.length<=m):=hdone;clear hx hb hdone;generalize hBx:bs[k].x=gx at *;generalize hBy:bs[k].y=gy at *;generalize hBz:bs[k].z=gz at *;generalize hBe:bs[k].e=ge at *;generalize hBi:bs[k].i=gi at *;generalize hBr:bs[k].r=gr at *;generalize hBd:bs[k].d=gd at *;clear hBx hBy hBz hBe hBi hBr hBd;by_cases hle:(m0:Int)<=(m':Int)
      .have hnz2:¬ (m':Int)-(m0:Int)<0:=om;go_wp2_with ((first | go_at_call 107 | go_at_call 109);refine (Nd _ gx gy gz ge gi gr gd ao m0 c0 m' hm0 om).mono ?_;rw[qc hle];rintro o w5 ⟨rfl,hb5⟩);go_roundw;case rel=>
        refine⟨k+1,m'-m0,om,by go_num,by go_num,om,HB.o.trans (hb5.mono HB.o.size),fun j hj hjl=>?_⟩;by_cases e:j=k
        .subst e;have:=HM.o;omega
        .exact HDN.o j om hjl
       case measure=>simp[intOf];omega
      .go_wp2_with ((first | go_at_call 107 | go_at_call 109);refine (Nd _ gx gy gz ge gi gr gd ao m0 c0 m' hm0 om).mono ?_;rw[qa hle];rintro o w5 ⟨rfl,hb5⟩);go_ret;exact⟨-1,rfl,HB.o.trans (hb5.mono HB.o.size),.inl rfl⟩
     .go_wp2;go_ret;exact⟨_,rfl,hb,.inr ⟨m',rfl,hm',hnm,fun j hj=>hdone j (by have:=HL.o;omega) hj⟩⟩
  .have hneg:(m:Int)-(n:Int)<0:=om;have hd2:decide ((m:Int)-(n:Int)<0)=true:=by simpa using hneg
   clear h hd hlen;first | go_enter func44,ntmps44 | go_enter func46,ntmps46
   go_wp2;go_ret;exact⟨-1,rfl,bW _ _,.inl rfl⟩
def iL (w:World) (a:Option Addr) (n cap:Nat) (m:Nat) (hn:n<=9223372036854775807) (hm:m<=1048576) :
  Calls Tp 43 #[sL a n cap,I J m] w fun o w'=>o = rT (I J (if (n:Int)<=(m:Int) then (m:Int)-(n:Int) else -1))/\w=w':=by
 by_cases h:(n:Int)<=(m:Int)
 .rw[qc h];go_enter func43,ntmps43;go_wp2;go_ret;exact⟨rfl,rfl⟩
 .rw[qa h];go_enter func43,ntmps43;go_wp2;go_ret;exact⟨rfl,rfl⟩
section
variable {x N:Nat} {w:World}
def az.setCell (h:az w x N) (p:Addr) (v:Value):az (w.setCell p v) x N:=fun t ht=>by
 obtain⟨⟨u,hu⟩,hf⟩:=h t ht;refine⟨?_,by rw[Q0];exact hf⟩;by_cases e:(⟨x,t,none⟩ : Addr)=p
 .subst e;exact⟨v,QS _ _ _ hu⟩
 .exact⟨u,by rw[QG _ _ _ _ (fun hh=>e hh.symm)];exact hu⟩
def az.setRow (g:Nat):∀ (vs:List Value) (w:World) (p:Nat),az w x N->az (aQ w g p vs) x N:=by
 intro vs;induction vs with
 | nil=>intro w p h;exact h
 | cons v vs ih=>intro w p h;exact ih _ (p+1) (h.setCell _ v)
def az.le {M:Nat} (h:az w x N) (hM:M<=N):az w x M:=fun t ht=>h t om
def mkB (W:World) (b m C:Nat):Prop:=∀ t,t<m->W.cell? ⟨b,t,none⟩=some (I .u8 (((C+t) % 256:Nat):Int))
def mf (w:World) (b m cap C:Nat) (hr:az w b m) (hcp:m<=cap) (hm:m<=1048576) (hC:C<=10000000000000000) :
  Calls Tp 163 #[sL (some ⟨b,0,none⟩) m cap,I J (C:Int)] w fun o w'=>o = rT (I J ((C+m:Nat):Int))/\mkB w' b m C/\(∀ x N,az w x N->az w' x N)/\(∀ x,x≠b->w'.heap[x]?=w.heap[x]?)/\w'.heap.size=w.heap.size/\Below b w w':=by
 have HR:Hid (az w b m):=hr;clear hr;go_enter func163,ntmps163;go_wp2;go_loopw [1,5] (fun kk i wr=>∃ k:Nat,k<=m/\i = I J (k:Int)/\kk = I J ((C+k:Nat):Int)/\mkB wr b k C/\(∀ x N,az w x N->az wr x N)/\(∀ x,x≠b->wr.heap[x]?=w.heap[x]?)/\wr.heap.size=w.heap.size/\Below b w wr) (fun _ i _=>m-(intOf i).toNat);case atStart=>exact⟨0,nZ _,rfl,by go_num,fun j hj=>Qy hj (nN _),fun _ _ h=>h,fun _ _=>rfl,rfl,bW _ _⟩
 case round=>
  obtain⟨k,hk,rfl,rfl,hdone,hrow,hoth,hsz,hb⟩:=hrel;by_cases hlt:k<m
  .obtain⟨⟨v0,z0⟩,f0⟩:=(hrow b m HR.o) k hlt;have HD:Hid (mkB wr b k C/\(∀ x N,az w x N->az wr x N)/\(∀ x,x≠b->wr.heap[x]?=w.heap[x]?)/\wr.heap.size=w.heap.size/\Below b w wr):=⟨hdone,hrow,hoth,hsz,hb⟩
   clear hdone hrow hoth hsz hb;generalize hD:C+k=D at *;have HD2:Hid (C+k=D):=hD;have hD1:D<=20000000000000000:=om;clear hD;go_wp2;obtain⟨r1,r2,r3,r4,r5⟩:=HD.o;have hD:=HD2.o;refine⟨⟨k+1,om,by go_num,by rw[show C+(k+1)=D+1 by omega];go_num,fun t ht=>?_,fun x N h=>(r2 x N h).setCell _ _,fun x hx=>(QA _ _ x _ hx).trans (r3 x hx),by simpa using r4,r5.setCell (nR _) _⟩,by simp[intOf];omega⟩;by_cases e:t=k
   .subst e;rw[QS _ _ _ z0,hD];congr 2
   .rw[QG _ _ _ _ (by intro hh;exact e (by simpa using hh.symm))];exact r1 t om
  .have hkn:k=m:=om;subst hkn;go_wp2;go_ret;exact⟨rfl,hdone,hrow,hoth,hsz,hb⟩
def ma (w:World) (cap C:Nat):Calls Tp 163 #[sL none 0 cap,I J (C:Int)] w fun o w'=>o = rT (I J (C:Int))/\w'=w:=by
 go_enter func163,ntmps163;go_wp2;go_loopw [1,5] (fun kk i wr=>i = I J 0/\kk = I J (C:Int)/\wr=w) (fun _ _ _=>0);case atStart=>exact⟨rfl,rfl,rfl⟩
 case round=>
  obtain⟨rfl,rfl,rfl⟩:=hrel;go_wp2;go_ret;exact⟨rfl,rfl⟩
def mu (w:World) (cap C:Nat):Calls Tp 164 #[sL none 0 cap,I J (C:Int)] w fun o w'=>o = rT (I J (C:Int))/\w'=w:=by
 go_enter func164,ntmps164;go_wp2;go_loopw [1,5] (fun kk i wr=>i = I J 0/\kk = I J (C:Int)/\wr=w) (fun _ _ _=>0);case atStart=>exact⟨rfl,rfl,rfl⟩
 case round=>
  obtain⟨rfl,rfl,rfl⟩:=hrel;go_wp2;go_ret;exact⟨rfl,rfl⟩
def mw (w:World) (b m cap C:Nat) (hr:mkB w b m C) (hcp:m<=cap) (hm:m<=1048576) (hC:C<=10000000000000000) :
  Calls Tp 164 #[sL (some ⟨b,0,none⟩) m cap,I J (C:Int)] w fun o w'=>o = rT (I J ((C+m:Nat):Int))/\w'=w:=by
 have HR:Hid (mkB w b m C):=hr;clear hr;go_enter func164,ntmps164;go_wp2;go_loopw [1,5] (fun kk i wr=>∃ k:Nat,k<=m/\i = I J (k:Int)/\kk = I J ((C+k:Nat):Int)/\wr=w) (fun _ i _=>m-(intOf i).toNat);case atStart=>exact⟨0,nZ _,rfl,by go_num,rfl⟩
 case round=>
  obtain⟨k,hk,rfl,rfl,rfl⟩:=hrel;by_cases hlt:k<m
  .have z0:=HR.o k hlt;generalize hD:C+k=D at *;have HD2:Hid (C+k=D):=hD;have hD1:D<=20000000000000000:=om;clear hD;go_wp2;refine⟨⟨k+1,om,by go_num,by rw[show C+(k+1)=D+1 by have:=HD2.o;omega];go_num,trivial⟩,by simp[intOf];omega⟩
  .have hkn:k=m:=om;subst hkn;go_wp2;go_ret;exact⟨rfl,rfl⟩
end
section
variable {W W':Wd} {g o C:Nat}
abbrev Hd:=Option Addr × Nat × Nat
def hd (W:Wd) (g:Nat) (h:Hd):Prop:=h.2.1<=1048576/\h.2.1<=h.2.2/\((h.1=nn/\h.2.1=0)\/∃ b,h.1=sQ ⟨b,0,nn⟩/\b≠g/\az W b h.2.1)
def hd.up {h:Hd} (H:hd W g h) (hr:∀ x N,az W x N->az W' x N):hd W' g h:=by
 obtain⟨h1,h2,h3⟩:=H;refine⟨h1,h2,?_⟩;rcases h3 with h3|⟨b,e,hn,hf⟩
 .exact qr h3
 .exact qx ⟨b,e,hn,hr _ _ hf⟩
def dst (hs:Nat->Hd) (n:Nat):Prop:=∀ i j,i<j->j<n->∀ b,(hs i).1=sQ ⟨b,0,nn⟩->(hs j).1≠sQ ⟨b,0,nn⟩
def abv (B:Nat) (hs:Nat->Hd) (n:Nat):Prop:=∀ j,j<n->∀ b,(hs j).1=sQ ⟨b,0,nn⟩->B<=b
def tb (B:Nat) (W:Wd) (g:Nat) (a:Option Addr) (m cc C:Nat) (H:hd W g (a,m,cc)) (hB:∀ b,a=sQ ⟨b,0,nn⟩->B<=b) (hC:C<=10000000000000000) :
  Calls Tp 163 #[sL a m cc,I J (C:Int)] W fun o w'=>o = rT (I J ((C+m:Nat):Int))/\(∀ b,a=sQ ⟨b,0,nn⟩->mkB w' b m C)/\(∀ x N,az W x N->az w' x N)/\(∀ x,a≠sQ ⟨x,0,nn⟩->w'.heap[x]?=W.heap[x]?)/\w'.heap.size=W.heap.size/\Below B W w':=by
 obtain⟨h1,h2,⟨e,hm⟩|⟨b,e,hn,hf⟩⟩:=H
 .simp only at e hm;subst e;subst hm;refine (ma W cc C).mono ?_;rintro o w' ⟨rfl,rfl⟩;exact⟨rfl,fun b hb=>Qy hb pQ,fun _ _ h=>h,fun _ _=>rfl,rfl,bW _ _⟩
 .simp only at e hf h1 h2;subst e;refine (mf W b m cc C hf h2 h1 hC).mono ?_;rintro o w' ⟨rfl,q1,q2,q3,q4,q5⟩;exact⟨rfl,fun b' hb=>by cases hb;exact q1,q2,fun x hx=>q3 x (fun e=>hx (by rw[e])),q4,q5.mono (hB b rfl)⟩
def tG (W:Wd) (g:Nat) (a:Option Addr) (m cc C:Nat) (H:hd W g (a,m,cc)) (hk:∀ b,a=sQ ⟨b,0,nn⟩->mkB W b m C) (hC:C<=10000000000000000) :
  Calls Tp 164 #[sL a m cc,I J (C:Int)] W fun o w'=>o = rT (I J ((C+m:Nat):Int))/\w'=W:=by
 obtain⟨h1,h2,⟨e,hm⟩|⟨b,e,hn,hf⟩⟩:=H
 .simp only at e hm;subst e;subst hm;exact (mu W cc C)
 .simp only at e hf h1 h2;subst e;exact mw W b m cc C (hk b rfl) h2 h1 hC
structure sh8 (W:Wd) (g n:Nat) (hs:Nat->Hd):Prop where
 row:az W g (n*8)
 dat:∀ j,j<n->W.cell? ⟨g,j*8+7,nn⟩=sQ (sL (hs j).1 (hs j).2.1 (hs j).2.2)/\hd W g (hs j)
def cn8 (c:Nat) (hs:Nat->Hd):Nat->Nat
 | 0=>c
 | j+1=>cn8 c hs j+7+(hs j).2.1
def jP (c n:Nat) (hs:Nat->Hd) (h:∀ j,j<n->(hs j).2.1<=1048576):∀ j,j<=n->cn8 c hs j<=c+j*1048583:=by
 intro j;induction j with
 | zero=>intro _;exact nR _
 | succ j ih=>
  intro hj;have h1:=ih om;have h2:=h j om;simp only[cn8];omega
def m8w (C:Nat):List Value:=[Value.int .i64 (C:Int),Value.int .i64 ((C:Int)+1),Value.int .i64 ((C:Int)+1+1),Value.bool ((C:Int) % 3 == 0),Value.int .u32 (((C:Int)+1+1+1+1) % 4294967296),Value.bool (((C:Int)+5) % 3 == 0),Value.int .i64 ((C:Int)+1+1+1+1+1+1)]
structure mk8 (W:Wd) (g o C:Nat) (h:Hd):Prop where
 row:∀ t (ht:t<7),W.cell? ⟨g,o+t,nn⟩=sQ ((m8w C)[t]'(by simpa[m8w] using ht))
 dat:∀ b,h.1=sQ ⟨b,0,nn⟩->mkB W b h.2.1 (C+7)
def mk8.up {h:Hd} (H:mk8 W g o C h) (hg:W'.heap[g]?=W.heap[g]?) (hb:∀ b,h.1=sQ ⟨b,0,nn⟩->W'.heap[b]?=W.heap[b]?):mk8 W' g o C h:=
 ⟨fun t ht=>cU (H.row t ht) hg,fun b e t ht=>cU (H.dat b e t ht) (hb b e)⟩
structure sh5 (W:Wd) (g n:Nat) (hs:Nat->Hd):Prop where
 row:az W g (n*5)
 dat:∀ j,j<n->W.cell? ⟨g,j*5+4,nn⟩=sQ (sL (hs j).1 (hs j).2.1 (hs j).2.2)/\hd W g (hs j)
def cn5 (c:Nat) (hs:Nat->Hd):Nat->Nat
 | 0=>c
 | j+1=>cn5 c hs j+4+(hs j).2.1
def tY (c n:Nat) (hs:Nat->Hd) (h:∀ j,j<n->(hs j).2.1<=1048576):∀ j,j<=n->cn5 c hs j<=c+j*1048583:=by
 intro j;induction j with
 | zero=>intro _;exact nR _
 | succ j ih=>
  intro hj;have h1:=ih om;have h2:=h j om;simp only[cn5];omega
def m5w (C:Nat):List Value:=[Value.bool ((C:Int) % 3 == 0),Value.int .u32 (((C:Int)+1) % 4294967296),Value.bool (((C:Int)+2) % 3 == 0),Value.int .i64 ((C:Int)+1+1+1)]
structure mk5 (W:Wd) (g o C:Nat) (h:Hd):Prop where
 row:∀ t (ht:t<4),W.cell? ⟨g,o+t,nn⟩=sQ ((m5w C)[t]'(by simpa[m5w] using ht))
 dat:∀ b,h.1=sQ ⟨b,0,nn⟩->mkB W b h.2.1 (C+4)
def mk5.up {h:Hd} (H:mk5 W g o C h) (hg:W'.heap[g]?=W.heap[g]?) (hb:∀ b,h.1=sQ ⟨b,0,nn⟩->W'.heap[b]?=W.heap[b]?):mk5 W' g o C h:=
 ⟨fun t ht=>cU (H.row t ht) hg,fun b e t ht=>cU (H.dat b e t ht) (hb b e)⟩
def vS {F:FuncId} (B:Nat) (w:Wd) (g n cap c:Nat) (hs:Nat->Hd) (h:sh8 w g n hs) (hcp:n<=cap) (hn:n<=1048576) (hc:c<=20000000000000) (hB:B<=g) (hB2:abv B hs n) (hF:F=100\/F=102:=by decide) :
  Calls Tp F #[sL (sQ ⟨g,0,nn⟩) n cap,I J (c:Int)] w fun o w'=>o = rT (I J (cn8 c hs n:Int))/\(dst hs n->∀ j,j<n->mk8 w' g (j*8) (cn8 c hs j) (hs j))/\sh8 w' g n hs/\(∀ x N,az w x N->az w' x N)/\(∀ x,x≠g->(∀ j,j<n->(hs j).1≠sQ ⟨x,0,nn⟩)->w'.heap[x]?=w.heap[x]?)/\w'.heap.size=w.heap.size/\Below B w w':=by
 rcases hF with rfl|rfl;all_goals
  have HSH:Hid (sh8 w g n hs):=h;have HB2:Hid (abv B hs n):=hB2;have HLE:Hid (∀ j,j<=n->cn8 c hs j<=c+j*1048583):=jP c n hs (fun j hj=>(h.dat j hj).2.1);clear h hB2;first | go_enter func100,ntmps100 | go_enter func102,ntmps102
  go_wp2;go_loopw [1,5] (fun kk i wr=>∃ k:Nat,k<=n/\i = I J (k:Int)/\kk = I J (cn8 c hs k:Int)/\(dst hs n->∀ j,j<k->mk8 wr g (j*8) (cn8 c hs j) (hs j))/\sh8 wr g n hs/\(∀ x N,az w x N->az wr x N)/\(∀ x,x≠g->(∀ j,j<n->(hs j).1≠sQ ⟨x,0,nn⟩)->wr.heap[x]?=w.heap[x]?)/\wr.heap.size=w.heap.size/\Below B w wr) (fun _ i _=>n-(intOf i).toNat);case atStart=>exact⟨0,nZ _,rfl,rfl,fun _ j hj=>Qy hj (nN _),HSH.o,fun _ _ h=>h,fun _ _ _=>rfl,rfl,bW _ _⟩
  case round=>
   obtain⟨k,hk,rfl,rfl,hdone,hsh,hrow,hoth,hsz,hb⟩:=hrel;by_cases hlt:k<n
   .have hkn:k*8+8<=n*8:=om;obtain⟨⟨v0,z0⟩,f0⟩:=hsh.row (k*8) om;obtain⟨⟨v1,z1⟩,f1⟩:=hsh.row (k*8+1) om;obtain⟨⟨v2,z2⟩,f2⟩:=hsh.row (k*8+2) om;obtain⟨⟨v3,z3⟩,f3⟩:=hsh.row (k*8+3) om;obtain⟨⟨v4,z4⟩,f4⟩:=hsh.row (k*8+4) om;obtain⟨⟨v5,z5⟩,f5⟩:=hsh.row (k*8+5) om;obtain⟨⟨v6,z6⟩,f6⟩:=hsh.row (k*8+6) om;obtain⟨zd,hh⟩:=hsh.dat k hlt;have HD:Hid ((dst hs n->∀ j,j<k->mk8 wr g (j*8) (cn8 c hs j) (hs j))/\sh8 wr g n hs/\(∀ x N,az w x N->az wr x N)/\(∀ x,x≠g->(∀ j,j<n->(hs j).1≠sQ ⟨x,0,nn⟩)->wr.heap[x]?=w.heap[x]?)/\wr.heap.size=w.heap.size/\Below B w wr):=⟨hdone,hsh,hrow,hoth,hsz,hb⟩
    clear hdone hsh hrow hoth hsz hb;have HCN:Hid (cn8 c hs (k+1)=cn8 c hs k+7+(hs k).2.1):=rfl;have hC1:cn8 c hs k<=30000000000000:=by have:=HLE.o k hk;omega
    generalize hC:cn8 c hs k=C at *;have HC:Hid (cn8 c hs k=C):=hC;clear hC;have HAB:Hid (∀ b,(hs k).1=sQ ⟨b,0,nn⟩->B<=b):=HB2.o k hlt;obtain⟨t,ht⟩ : ∃ t,hs k=t:=⟨_,rfl⟩
    have HT:Hid (hs k=t):=ht;rw[ht] at zd hh HCN HAB;clear ht;obtain⟨a,m,cc⟩:=t;simp only at zd;have hm:m<=1048576:=hh.1;have e3:((C:Int)+1+1+1).tmod 3=(((C+3) % 3:Nat):Int):=by rw[qh om];omega
    have e5:((C:Int)+1+1+1+1+1).tmod 3=(((C+5) % 3:Nat):Int):=by rw[qh om];omega
    have HBY:Hid (∀ W,(∀ x N,az wr x N->az W x N)->Calls Tp 163 #[sL a m cc,I J ((C:Int)+1+1+1+1+1+1+1)] W fun o w'=>o = rT (I J ((C+7+m:Nat):Int))/\(∀ b,a=sQ ⟨b,0,nn⟩->mkB w' b m (C+7))/\(∀ x N,az W x N->az w' x N)/\(∀ x,a≠sQ ⟨x,0,nn⟩->w'.heap[x]?=W.heap[x]?)/\w'.heap.size=W.heap.size/\Below B W w'):=fun W hW=>by
     have:=tb B W g a m cc (C+7) (hh.up hW) HAB.o om;have e:(((C+7:Nat)):Int)=(C:Int)+1+1+1+1+1+1+1:=om;rw[e] at this;exact this
    have HH:Hid (hd wr g (a,m,cc)):=hh;clear hh;go_wp2_with (go_at_call 163;refine (HBY.o _ (fun x N h=>h.setRow g (m8w C) wr (k*8))).mono ?_;rintro o w5 ⟨rfl,q1,q2,q3,q4,q5⟩;have HQ:Hid ((∀ b,a=sQ ⟨b,0,nn⟩->mkB w5 b m (C+7))/\(∀ x N,az (aQ wr g (k*8) (m8w C)) x N->az w5 x N)/\(∀ x,a≠sQ ⟨x,0,nn⟩->w5.heap[x]?=(aQ wr g (k*8) (m8w C)).heap[x]?)/\w5.heap.size=(aQ wr g (k*8) (m8w C)).heap.size/\Below B (aQ wr g (k*8) (m8w C)) w5):=⟨q1,q2,q3,q4,q5⟩;clear q1 q2 q3 q4 q5);obtain⟨q1,q2,q3,q4,q5⟩:=HQ.o;obtain⟨r1,r0,r2,r3,r4,r5⟩:=HD.o;have hT:=HT.o;have hC:=HC.o;have hl:(m8w C).length=7:=rfl;have hag:a≠sQ ⟨g,0,nn⟩:=by
     rcases HH.o.2.2 with⟨e,_⟩|⟨b,e,hne,_⟩
     .intro h;rw[h] at e;cases e
     .intro h;rw[h] at e;cases e;exact hne rfl
    have hgb:=q3 g hag;have hrf:∀ x N,az wr x N->az w5 x N:=fun x N h=>q2 x N (h.setRow g (m8w C) wr (k*8));refine⟨⟨k+1,om,by go_num,by rw[HCN.o];congr 1,fun hd j hj=>?_,⟨hrf _ _ r0.row,fun j hj=>⟨cU ((rO g (m8w C) wr (k*8) (j*8+7) om).trans (r0.dat j hj).1) hgb,(r0.dat j hj).2.up hrf⟩⟩,fun x N h=>hrf x N (r2 x N h),fun x hx hj=>(q3 x (by have:=hj k hlt;rw[hT] at this;exact this)).trans ((aI g x hx (m8w C) wr (k*8)).trans (r3 x hx hj)),by rw[q4,aX];exact r4,(bT g B hB w (m8w C) wr (k*8) r5).trans q5⟩,by simp[intOf];omega⟩;by_cases e:j=k
    .subst e;rw[hT,hC];exact⟨fun t ht=>cU (aL g (m8w C) wr (j*8) t om (r0.row (j*8+t) om).1) hgb,fun b hb=>q1 b hb⟩
    .have hj':j<k:=om;have H0:=r1 hd j hj';refine⟨fun t ht=>cU ((rO g (m8w C) wr (k*8) (j*8+t) om).trans (H0.row t ht)) hgb,fun b hb t ht=>cU (H0.dat b hb t ht) ?_⟩;have hbg:b≠g:=by
      rcases (r0.dat j om).2.2.2 with⟨e,_⟩|⟨b',e,hne,_⟩
      .rw[hb] at e;cases e
      .rw[hb] at e;cases e;exact hne
     have hba:a≠sQ ⟨b,0,nn⟩:=by
      have:=hd j k hj' hlt b hb;rw[hT] at this;exact this
     exact (q3 b hba).trans (aI g b hbg (m8w C) wr (k*8))
   .have hkn:k=n:=om;subst hkn;go_wp2;go_ret;exact⟨rfl,hdone,hsh,hrow,hoth,hsz,hb⟩
def kW (B:Nat) (w:Wd) (g n cap c:Nat) (hs:Nat->Hd) (h:sh5 w g n hs) (hcp:n<=cap) (hn:n<=1048576) (hc:c<=20000000000000) (hB:B<=g) (hB2:abv B hs n) :
  Calls Tp 101 #[sL (sQ ⟨g,0,nn⟩) n cap,I J (c:Int)] w fun o w'=>o = rT (I J (cn5 c hs n:Int))/\(dst hs n->∀ j,j<n->mk5 w' g (j*5) (cn5 c hs j) (hs j))/\sh5 w' g n hs/\(∀ x N,az w x N->az w' x N)/\(∀ x,x≠g->(∀ j,j<n->(hs j).1≠sQ ⟨x,0,nn⟩)->w'.heap[x]?=w.heap[x]?)/\w'.heap.size=w.heap.size/\Below B w w':=by
 have HSH:Hid (sh5 w g n hs):=h;have HB2:Hid (abv B hs n):=hB2;have HLE:Hid (∀ j,j<=n->cn5 c hs j<=c+j*1048583):=tY c n hs (fun j hj=>(h.dat j hj).2.1);clear h hB2;go_enter func101,ntmps101;go_wp2;go_loopw [1,5] (fun kk i wr=>∃ k:Nat,k<=n/\i = I J (k:Int)/\kk = I J (cn5 c hs k:Int)/\(dst hs n->∀ j,j<k->mk5 wr g (j*5) (cn5 c hs j) (hs j))/\sh5 wr g n hs/\(∀ x N,az w x N->az wr x N)/\(∀ x,x≠g->(∀ j,j<n->(hs j).1≠sQ ⟨x,0,nn⟩)->wr.heap[x]?=w.heap[x]?)/\wr.heap.size=w.heap.size/\Below B w wr) (fun _ i _=>n-(intOf i).toNat);case atStart=>exact⟨0,nZ _,rfl,rfl,fun _ j hj=>Qy hj (nN _),HSH.o,fun _ _ h=>h,fun _ _ _=>rfl,rfl,bW _ _⟩
 case round=>
  obtain⟨k,hk,rfl,rfl,hdone,hsh,hrow,hoth,hsz,hb⟩:=hrel;by_cases hlt:k<n
  .have hkn:k*5+5<=n*5:=om;obtain⟨⟨v0,z0⟩,f0⟩:=hsh.row (k*5) om;obtain⟨⟨v1,z1⟩,f1⟩:=hsh.row (k*5+1) om;obtain⟨⟨v2,z2⟩,f2⟩:=hsh.row (k*5+2) om;obtain⟨⟨v3,z3⟩,f3⟩:=hsh.row (k*5+3) om;obtain⟨zd,hh⟩:=hsh.dat k hlt;have HD:Hid ((dst hs n->∀ j,j<k->mk5 wr g (j*5) (cn5 c hs j) (hs j))/\sh5 wr g n hs/\(∀ x N,az w x N->az wr x N)/\(∀ x,x≠g->(∀ j,j<n->(hs j).1≠sQ ⟨x,0,nn⟩)->wr.heap[x]?=w.heap[x]?)/\wr.heap.size=w.heap.size/\Below B w wr):=⟨hdone,hsh,hrow,hoth,hsz,hb⟩
   clear hdone hsh hrow hoth hsz hb;have HCN:Hid (cn5 c hs (k+1)=cn5 c hs k+4+(hs k).2.1):=rfl;have hC1:cn5 c hs k<=30000000000000:=by have:=HLE.o k hk;omega
   generalize hC:cn5 c hs k=C at *;have HC:Hid (cn5 c hs k=C):=hC;clear hC;have HAB:Hid (∀ b,(hs k).1=sQ ⟨b,0,nn⟩->B<=b):=HB2.o k hlt;obtain⟨t,ht⟩ : ∃ t,hs k=t:=⟨_,rfl⟩
   have HT:Hid (hs k=t):=ht;rw[ht] at zd hh HCN HAB;clear ht;obtain⟨a,m,cc⟩:=t;simp only at zd;have hm:m<=1048576:=hh.1;have e0:((C:Int)).tmod 3=(((C+0) % 3:Nat):Int):=by rw[qh om];omega
   have e2:((C:Int)+1+1).tmod 3=(((C+2) % 3:Nat):Int):=by rw[qh om];omega
   have HBY:Hid (∀ W,(∀ x N,az wr x N->az W x N)->Calls Tp 163 #[sL a m cc,I J ((C:Int)+1+1+1+1)] W fun o w'=>o = rT (I J ((C+4+m:Nat):Int))/\(∀ b,a=sQ ⟨b,0,nn⟩->mkB w' b m (C+4))/\(∀ x N,az W x N->az w' x N)/\(∀ x,a≠sQ ⟨x,0,nn⟩->w'.heap[x]?=W.heap[x]?)/\w'.heap.size=W.heap.size/\Below B W w'):=fun W hW=>by
    have:=tb B W g a m cc (C+4) (hh.up hW) HAB.o om;have e:(((C+4:Nat)):Int)=(C:Int)+1+1+1+1:=om;rw[e] at this;exact this
   have HH:Hid (hd wr g (a,m,cc)):=hh;clear hh;go_wp2_with (go_at_call 163;refine (HBY.o _ (fun x N h=>h.setRow g (m5w C) wr (k*5))).mono ?_;rintro o w5 ⟨rfl,q1,q2,q3,q4,q5⟩;have HQ:Hid ((∀ b,a=sQ ⟨b,0,nn⟩->mkB w5 b m (C+4))/\(∀ x N,az (aQ wr g (k*5) (m5w C)) x N->az w5 x N)/\(∀ x,a≠sQ ⟨x,0,nn⟩->w5.heap[x]?=(aQ wr g (k*5) (m5w C)).heap[x]?)/\w5.heap.size=(aQ wr g (k*5) (m5w C)).heap.size/\Below B (aQ wr g (k*5) (m5w C)) w5):=⟨q1,q2,q3,q4,q5⟩;clear q1 q2 q3 q4 q5);obtain⟨q1,q2,q3,q4,q5⟩:=HQ.o;obtain⟨r1,r0,r2,r3,r4,r5⟩:=HD.o;have hT:=HT.o;have hC:=HC.o;have hl:(m5w C).length=4:=rfl;have hag:a≠sQ ⟨g,0,nn⟩:=by
    rcases HH.o.2.2 with⟨e,_⟩|⟨b,e,hne,_⟩
    .intro h;rw[h] at e;cases e
    .intro h;rw[h] at e;cases e;exact hne rfl
   have hgb:=q3 g hag;have hrf:∀ x N,az wr x N->az w5 x N:=fun x N h=>q2 x N (h.setRow g (m5w C) wr (k*5));refine⟨⟨k+1,om,by go_num,by rw[HCN.o];congr 1,fun hd j hj=>?_,⟨hrf _ _ r0.row,fun j hj=>⟨cU ((rO g (m5w C) wr (k*5) (j*5+4) om).trans (r0.dat j hj).1) hgb,(r0.dat j hj).2.up hrf⟩⟩,fun x N h=>hrf x N (r2 x N h),fun x hx hj=>(q3 x (by have:=hj k hlt;rw[hT] at this;exact this)).trans ((aI g x hx (m5w C) wr (k*5)).trans (r3 x hx hj)),by rw[q4,aX];exact r4,(bT g B hB w (m5w C) wr (k*5) r5).trans q5⟩,by simp[intOf];omega⟩;by_cases e:j=k
   .subst e;rw[hT,hC];exact⟨fun t ht=>cU (aL g (m5w C) wr (j*5) t om (r0.row (j*5+t) om).1) hgb,fun b hb=>q1 b hb⟩
   .have hj':j<k:=om;have H0:=r1 hd j hj';refine⟨fun t ht=>cU ((rO g (m5w C) wr (k*5) (j*5+t) om).trans (H0.row t ht)) hgb,fun b hb t ht=>cU (H0.dat b hb t ht) ?_⟩;have hbg:b≠g:=by
     rcases (r0.dat j om).2.2.2 with⟨e,_⟩|⟨b',e,hne,_⟩
     .rw[hb] at e;cases e
     .rw[hb] at e;cases e;exact hne
    have hba:a≠sQ ⟨b,0,nn⟩:=by
     have:=hd j k hj' hlt b hb;rw[hT] at this;exact this
    exact (q3 b hba).trans (aI g b hbg (m5w C) wr (k*5))
  .have hkn:k=n:=om;subst hkn;go_wp2;go_ret;exact⟨rfl,hdone,hsh,hrow,hoth,hsz,hb⟩
end
def Nc {F:FuncId} (w:World) (g n cap c:Nat) (hs:Nat->Hd) (h:sh8 w g n hs) (hm:∀ j,j<n->mk8 w g (j*8) (cn8 c hs j) (hs j)) (hcp:n<=cap) (hn:n<=1048576) (hc:c<=20000000000000) (hF:F=104\/F=106:=by decide) :
  Calls Tp F #[sL (sQ ⟨g,0,nn⟩) n cap,I J (c:Int)] w fun o w'=>o = rT (I J (cn8 c hs n:Int))/\w'=w:=by
 rcases hF with rfl|rfl;all_goals
  have HSH:Hid (sh8 w g n hs):=h;have HM:Hid (∀ j,j<n->mk8 w g (j*8) (cn8 c hs j) (hs j)):=hm;have HLE:Hid (∀ j,j<=n->cn8 c hs j<=c+j*1048583):=jP c n hs (fun j hj=>(h.dat j hj).2.1);clear h hm;first | go_enter func104,ntmps104 | go_enter func106,ntmps106
  go_wp2;go_loopw [1,5] (fun kk i wr=>∃ k:Nat,k<=n/\i = I J (k:Int)/\kk = I J (cn8 c hs k:Int)/\wr=w) (fun _ i _=>n-(intOf i).toNat);case atStart=>exact⟨0,nZ _,rfl,rfl,rfl⟩
  case round=>
   obtain⟨k,hk,rfl,rfl,rfl⟩:=hrel;by_cases hlt:k<n
   .have hx:=HM.o k hlt;obtain⟨zd,hh⟩:=HSH.o.dat k hlt;have HCN:Hid (cn8 c hs (k+1)=cn8 c hs k+7+(hs k).2.1):=rfl;have hC1:cn8 c hs k<=30000000000000:=by have:=HLE.o k hk;omega
    generalize hC:cn8 c hs k=C at *;have HC:Hid (cn8 c hs k=C):=hC;clear hC;obtain⟨t,ht⟩ : ∃ t,hs k=t:=⟨_,rfl⟩
    rw[ht] at zd hh HCN hx;clear ht;obtain⟨a,m,cc⟩:=t;simp only at zd;have hm:m<=1048576:=hh.1;have x0:wr.cell? ⟨g,k*8,nn⟩=sQ (I J (C:Int)):=hx.row 0 om;have x1:wr.cell? ⟨g,k*8+1,nn⟩=sQ (I J ((C:Int)+1)):=hx.row 1 om;have x2:wr.cell? ⟨g,k*8+2,nn⟩=sQ (I J ((C:Int)+1+1)):=hx.row 2 om;have x3:wr.cell? ⟨g,k*8+3,nn⟩=sQ (bO ((C:Int) % 3 == 0)):=hx.row 3 om;have x4:wr.cell? ⟨g,k*8+4,nn⟩=sQ (I .u32 (((C:Int)+1+1+1+1) % 4294967296)):=hx.row 4 om;have x5:wr.cell? ⟨g,k*8+5,nn⟩=sQ (bO (((C:Int)+5) % 3 == 0)):=hx.row 5 om;have x6:wr.cell? ⟨g,k*8+6,nn⟩=sQ (I J ((C:Int)+1+1+1+1+1+1)):=hx.row 6 om;have hdat:=hx.dat;have e3:((C:Int)+1+1+1).tmod 3=(((C+3) % 3:Nat):Int):=by rw[qh om];omega
    have e5:((C:Int)+1+1+1+1+1).tmod 3=(((C+5) % 3:Nat):Int):=by rw[qh om];omega
    have HB:Hid (Calls Tp 164 #[sL a m cc,I J ((C:Int)+1+1+1+1+1+1+1)] wr fun o w'=>o = rT (I J ((C:Int)+7+(m:Int)))/\w'=wr):=by
     have:=tG wr g a m cc (C+7) hh hdat om;have e:(((C+7:Nat)):Int)=(C:Int)+1+1+1+1+1+1+1:=om;have e2:(((C+7+m:Nat)):Int)=(C:Int)+7+(m:Int):=om;rw[e,e2] at this;exact this
    clear hx hh hdat;have hnz:¬ (C:Int)+7+(m:Int)<0:=om;go_wp2_with (go_at_call 164;refine HB.o.mono ?_;rintro o w5 ⟨rfl,rfl⟩);refine⟨⟨k+1,om,by go_num,by rw[HCN.o];congr 1,trivial⟩,by simp[intOf];omega⟩
   .have hkn:k=n:=om;subst hkn;go_wp2;go_ret;exact⟨rfl,rfl⟩
def lA (w:World) (g n cap c:Nat) (hs:Nat->Hd) (h:sh5 w g n hs) (hm:∀ j,j<n->mk5 w g (j*5) (cn5 c hs j) (hs j)) (hcp:n<=cap) (hn:n<=1048576) (hc:c<=20000000000000) :
  Calls Tp 105 #[sL (sQ ⟨g,0,nn⟩) n cap,I J (c:Int)] w fun o w'=>o = rT (I J (cn5 c hs n:Int))/\w'=w:=by
 have HSH:Hid (sh5 w g n hs):=h;have HM:Hid (∀ j,j<n->mk5 w g (j*5) (cn5 c hs j) (hs j)):=hm;have HLE:Hid (∀ j,j<=n->cn5 c hs j<=c+j*1048583):=tY c n hs (fun j hj=>(h.dat j hj).2.1);clear h hm;go_enter func105,ntmps105;go_wp2;go_loopw [1,5] (fun kk i wr=>∃ k:Nat,k<=n/\i = I J (k:Int)/\kk = I J (cn5 c hs k:Int)/\wr=w) (fun _ i _=>n-(intOf i).toNat);case atStart=>exact⟨0,nZ _,rfl,rfl,rfl⟩
 case round=>
  obtain⟨k,hk,rfl,rfl,rfl⟩:=hrel;by_cases hlt:k<n
  .have hx:=HM.o k hlt;obtain⟨zd,hh⟩:=HSH.o.dat k hlt;have HCN:Hid (cn5 c hs (k+1)=cn5 c hs k+4+(hs k).2.1):=rfl;have hC1:cn5 c hs k<=30000000000000:=by have:=HLE.o k hk;omega
   generalize hC:cn5 c hs k=C at *;have HC:Hid (cn5 c hs k=C):=hC;clear hC;obtain⟨t,ht⟩ : ∃ t,hs k=t:=⟨_,rfl⟩
   rw[ht] at zd hh HCN hx;clear ht;obtain⟨a,m,cc⟩:=t;simp only at zd;have hm:m<=1048576:=hh.1;have x0:wr.cell? ⟨g,k*5,nn⟩=sQ (bO ((C:Int) % 3 == 0)):=hx.row 0 om;have x1:wr.cell? ⟨g,k*5+1,nn⟩=sQ (I .u32 (((C:Int)+1) % 4294967296)):=hx.row 1 om;have x2:wr.cell? ⟨g,k*5+2,nn⟩=sQ (bO (((C:Int)+2) % 3 == 0)):=hx.row 2 om;have x3:wr.cell? ⟨g,k*5+3,nn⟩=sQ (I J ((C:Int)+1+1+1)):=hx.row 3 om;have hdat:=hx.dat;have e0:((C:Int)).tmod 3=(((C+0) % 3:Nat):Int):=by rw[qh om];omega
   have e2:((C:Int)+1+1).tmod 3=(((C+2) % 3:Nat):Int):=by rw[qh om];omega
   have HB:Hid (Calls Tp 164 #[sL a m cc,I J ((C:Int)+1+1+1+1)] wr fun o w'=>o = rT (I J ((C:Int)+4+(m:Int)))/\w'=wr):=by
    have:=tG wr g a m cc (C+4) hh hdat om;have e:(((C+4:Nat)):Int)=(C:Int)+1+1+1+1:=om;have e2:(((C+4+m:Nat)):Int)=(C:Int)+4+(m:Int):=om;rw[e,e2] at this;exact this
   clear hx hh hdat;have hnz:¬ (C:Int)+4+(m:Int)<0:=om;go_wp2_with (go_at_call 164;refine HB.o.mono ?_;rintro o w5 ⟨rfl,rfl⟩);refine⟨⟨k+1,om,by go_num,by rw[HCN.o];congr 1,trivial⟩,by simp[intOf];omega⟩
  .have hkn:k=n:=om;subst hkn;go_wp2;go_ret;exact⟨rfl,rfl⟩
end Go.Proofs.YtgfolecanghhhaaGreat
