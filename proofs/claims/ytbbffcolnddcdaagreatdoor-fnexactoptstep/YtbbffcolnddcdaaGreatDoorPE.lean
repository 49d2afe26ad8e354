import Derived.Test.YtbbffcolnddcdaaGreatDoorK49
import Derived.Test.YtbbffcolnddcdaaGreatDoorK50
import Derived.ShutString
import Derived.Test.YtbbffcolnddcdaaGreatDoorRows
import Derived.Test.YtbbffcolnddcdaaGreatDoorCards
import Derived.Test.YtbbffcolnddcdaaGreatDoorTie
import Derived.WalkKit
import Derived.ProofKit
import Derived.OpenShut
import Derived.Carry
import Derived.ChangeVars
import Derived.ChangeOld
import Derived.Below
import Derived.Deep.DeepHandedRow
import Derived.Lib.LaidTab
namespace Go.Proofs.YtbbffcolnddcdaaGreatDoor
open Go.Proofs.Tryz
open Option renaming none->nn,some->sQ
set_option maxRecDepth 100000
open Go.ChangeShapes Go.WideShapes Go.ChangeAt Go.RowKit
set_option linter.all false
open Go.Value renaming int->I,slice->sL,bool->bO,pointer->pT,agg->aG
open Go.IntKind renaming i64->J
open Go.Ending renaming returned->rT
open Go.Proofs.Tryz renaming prog->Tp
section
variable {W:World} {sp:Nat->Bool} {held:Bool} {fuel:Nat} {cs:List Value}
def cells271:Tp.cellsOf 271=3:=kr
def cells308:Tp.cellsOf 308=42:=kr
def wR {H:Type} {enc:TypeId × Value->H} {a b c:Int} {p:List MemPlace}
  (h:DataW.trod enc Tp W 0 sp held fuel 271 cs=sQ (.agg [.lit (.int .i64 a),.lit (.int .i64 b),.lit (.int .i64 c)],p)):cs=[I J a,I J b,I J c]:=by
 obtain⟨xs,n,_,e,k,t,d⟩:=QK underlying271 h;rw[cells271] at k;match cs,k with
 | [c0,c1,c2],_=>
  match xs,t with
  | [y0,y1,y2],_=>
   have h0:DataW.trod enc Tp W 0 sp held n 3 (List.take (Tp.cellsOf 3) [c0,c1,c2])=sQ y0:=d 0 _ rfl;have h1:DataW.trod enc Tp W 0 sp held n 3 (List.take (Tp.cellsOf 3) [c1,c2])=sQ y1:=d 1 _ rfl;have j:DataW.trod enc Tp W 0 sp held n 3 (List.take (Tp.cellsOf 3) [c2])=sQ y2:=d 2 _ rfl;rw[cells3] at h0 h1 j;obtain⟨u,f,l,_⟩:=Qz underlying3 h0;obtain⟨v,g,r,_⟩:=Qz underlying3 h1;obtain⟨w,i,s,_⟩:=Qz underlying3 j;rw[l,r,s] at e;simp at e f g i;obtain⟨⟨rfl,rfl,rfl⟩,_⟩:=e;rw[f,g,i]
theorem fnExactOptStep_own:ownKnob Tp.godebug=nn:=kr
theorem fnExactOptStep_laidOut:laidOutB Tp=true:=kr
def GS : Tp.globalNamed "loop.example/s01647/impl.fieldRows" = sQ 0 := by kernel_rfl
def sS:(Tp.globals[0]?).map (·.type)=sQ 308:=kr
def underlying308':Tp.underlying 308=sQ (.array 14 271):=kr
def wG {H:Type} {enc:TypeId × Value->H} {p:List MemPlace}
  (h:DataW.trod enc Tp W 0 sp held fuel 308 cs=sQ (Rows.laid_loop_example_s01647_impl_fieldRows,p)):cs=cQ:=by
 obtain⟨xs,m,_,G,D,E,g⟩:=DataW.trod_array underlying308' h;rw[cells308] at D;rw[cells271] at g;match xs,E with
 | [y0,y1,y2,y3,y4,y5,y6,y7,y8,y9,y10,y11,y12,y13],_=>
  have hd:=congrArg Prod.fst G;simp only[Rows.laid_loop_example_s01647_impl_fieldRows,Qi,List.map_nil,DataW.agg.injEq,List.cons.injEq,and_true] at hd;obtain⟨j,k,t,u,v,w,x,A,B,C,l,n,r,s⟩:=hd;have d:∀ (i:Nat) (y:DataW H × List MemPlace) (a b c:Int),i<14->[y0,y1,y2,y3,y4,y5,y6,y7,y8,y9,y10,y11,y12,y13][i]?=sQ y->DataW.agg [.lit (.int .i64 a),.lit (.int .i64 b),.lit (.int .i64 c)]=y.1->List.take 3 (List.drop (i*3) cs)=[I J a,I J b,I J c]:=by
   intro i y a b c hi hy hd;have h1:=g i hi;rw[hy] at h1;obtain⟨M,N⟩:=y;simp only at hd;subst hd;exact wR h1
  have k0:=d 0 y0 _ _ _ (by decide) rfl j;have k1:=d 1 y1 _ _ _ (by decide) rfl k;have k2:=d 2 y2 _ _ _ (by decide) rfl t;have k3:=d 3 y3 _ _ _ (by decide) rfl u;have k4:=d 4 y4 _ _ _ (by decide) rfl v;have k5:=d 5 y5 _ _ _ (by decide) rfl w;have k6:=d 6 y6 _ _ _ (by decide) rfl x;have k7:=d 7 y7 _ _ _ (by decide) rfl A;have k8:=d 8 y8 _ _ _ (by decide) rfl B;have k9:=d 9 y9 _ _ _ (by decide) rfl C;have k10:=d 10 y10 _ _ _ (by decide) rfl l;have k11:=d 11 y11 _ _ _ (by decide) rfl n;have k12:=d 12 y12 _ _ _ (by decide) rfl r;have L:=d 13 y13 _ _ _ (by decide) rfl s;have e:∀ (i:Nat),cs.drop (i*3)=(cs.drop (i*3)).take 3++cs.drop ((i+1)*3):=by
   intro i;have:cs.drop ((i+1)*3)=(cs.drop (i*3)).drop 3:=by rw[List.drop_drop];congr 1;omega
   rw[this,List.take_append_drop]
  have f:=e 0;simp only[Nat.zero_mul,List.drop_zero] at f;rw[f,e (0+1),e (0+1+1),e 3,e 4,e 5,e 6,e 7,e 8,e 9,e 10,e 11,e 12,e 13];have K:List.take 3 cs=[I J 1,I J 1,I J 2]:=by simpa using k0
  rw[K,k1,k2,k3,k4,k5,k6,k7,k8,k9,k10,k11,k12,L];have:cs.drop ((13+1)*3)=[]:=qo om;rw[this];rfl
def yE (h:laidMetH Tp Rows.fnExactOptStepRow.laid W):W.rangeAt 0 0 cQ:=by
 rw[MakeChecks.laidMetH_plain _ _ _ kr] at h;obtain⟨n,⟨k,r,g,i,l,p,a,d,f,c,_⟩,_,_⟩:=h;obtain rfl:=qX (GS.symm.trans a);obtain rfl:=qX (sS.symm.trans d);have e:=wG c;intro j v b;have:=World.var?_cell a f j;rw[qg,this];rw[<- e] at b;simpa using b
theorem fnExactOptStep_contract (H:Type) (enc:TypeId × Value->H) (W:World) (base:Nat) (args:Array Value) (f D:List (DataW H)) (B:List MemPlace)
  (c:∀ (j:Nat) t v,Tryz.f3.params[j]?=sQ t->args[j]?=sQ v->Value.okWide Tp W .any base t v)
  (l:DataW.Whole enc Tp Tryz.f3.params.toList Rows.fnExactOptStepSpec.vars false W args.toList f D B) (k:laidMetH Tp Rows.fnExactOptStepRow.laid W) :
  ce 3 args W fun e W'=>∃ v,e = rT v/\Rows.fnExactOptStepSpec.post enc Tp Tryz.f3 false true false false W args v W':=by
 have G:=l;obtain⟨p,q,i,E,rfl,a4,a5⟩:=l;have hA:DataW.TrodAll enc Tp W 0 (fun _=>true) true Tryz.f3.params.toList args.toList f p:=i;rw[params3] at hA c;obtain⟨w,a6,d0,a0,Y,q0,a3,rfl,rfl,h0,Z⟩:=trodAll_cons hA;obtain⟨y,a7,d1,a1,p1,q1,rfl,rfl,rfl,h1,r1⟩:=trodAll_cons Z;obtain⟨rfl,rfl,rfl⟩:=trodAll_nil r1;obtain rfl:args = #[w,y]:=by cases args;simp_all
 obtain⟨g,t,cs,fuel,C,u,rfl,b,n,d,r,rfl⟩:=trodVars_one E;obtain rfl:=qX (GS.symm.trans b);obtain rfl:=qX (sS.symm.trans n);have k0:=h0;have R:∀ x ∈ Y,x.block<W.heap.size:=by obtain⟨m,M⟩:=k0;exact DataW.trod_lt m _ _ _ M
 have S:∀ x ∈ u,x.block<W.heap.size:=DataW.trod_lt fuel _ _ _ r;obtain⟨A,s0,rfl,w0,T,U,X⟩:=zF (c 0 42 w rfl rfl) h0;obtain⟨z1,rfl,rfl,rfl,w1⟩:=open_int underlying3 (c 1 3 y rfl rfl) h1;clear i;have s:0<W.heap.size:=by
  have:=World.var?_cell b d 0;rcases Nat.eq_zero_or_pos W.heap.size with e|e
  .exfalso;have N:W.rangeAt 0 0 cQ:=yE k;have K:W.cell? ⟨0,0,nn⟩=sQ (I J 1):=N 0 _ rfl;have:=Qn W _ K;simp only at this;omega
  .exact e
 refine (uk A s0 z1 W (yE k) s w0 T U X).mono fun e W' ⟨L,a⟩=>?_
 subst L;have P : W'.var? Tp "loop.example/s01647/impl.fieldRows" = sQ cs := by
  simp only[World.var?,b,Option.bind_some] at d ⊢;rw[a.block 0 s];exact d
 have Q:DataW.Trod enc Tp W 0 (fun _=>true) true 308 (aG cs) C u:=⟨fuel,r⟩
 obtain⟨a2,O⟩:=Below.trod fnExactOptStep_laidOut kr (qJ kr) Q a S;exact⟨_,rfl,_,_,_,[],_,_,G,trodAll_mk1 (shut_bool underlying4 _),trodAll_cons_mk (Below.trod fnExactOptStep_laidOut kr (qJ kr) k0 a R) (trodAll_cons_mk (shut_int underlying3 w1) trodAll_mk0),trodVars_mk1 b n P O,a.frame _,fun h=>by cases h⟩
abbrev nI:Array Value:=#[aG #[I J 0,I J 0,I J 0,bO false,bO false,bO false,bO false,bO false,I J 0,I J 0,I J 0,I J 0,I J 0,I J 0,I J 0,sL nn 0 0,sL nn 0 0,sL nn 0 0,sL nn 0 0,I J 0,I J 0,I J 0,I J 0,I J 0,I J 0,I J 0,I J 0,bO false,I .u32 0,bO false,I J 0,sL nn 0 0,I J 0,sL nn 0 0,I J 0],I J 0]
def laid_met (os:Go.Os):laidMet Tp Rows.fnExactOptStepRow.laid (({ World.holding Tp os ⟨#[],#[],[]⟩ with heap:=(World.holding Tp os ⟨#[],#[],[]⟩).heap.modify 0 fun | .cells _ t frozen=>.cells cQ.toArray t frozen | o=>o }:World).forCall (fun _ _=>0) ⟨#[],nI,[]⟩).memory:=
 laidMet_of_run' 8 kr kr
def Gr (a:Go.Os) {H:Type} (enc:TypeId × Value->H):∃ b c f,DataW.whole enc Tp (({ World.holding Tp a ⟨#[],#[],[]⟩ with heap:=(World.holding Tp a ⟨#[],#[],[]⟩).heap.modify 0 fun | .cells _ t frozen=>.cells cQ.toArray t frozen | o=>o }:World).forCall (fun _ _=>0) ⟨#[],nI,[]⟩).memory Tryz.f3.params.toList Rows.fnExactOptStepSpec.vars false nI.toList 8=sQ (b,c,f):=by
 have h:(DataW.whole enc Tp (({ World.holding Tp a ⟨#[],#[],[]⟩ with heap:=(World.holding Tp a ⟨#[],#[],[]⟩).heap.modify 0 fun | .cells _ t frozen=>.cells cQ.toArray t frozen | o=>o }:World).forCall (fun _ _=>0) ⟨#[],nI,[]⟩).memory Tryz.f3.params.toList Rows.fnExactOptStepSpec.vars false nI.toList 8).isSome=true:=kr;obtain⟨⟨b,c,e⟩,d⟩:=Option.isSome_iff_exists.1 h;exact⟨b,c,e,d⟩
theorem fnExactOptStep_lifted (a:Go.Os) (j:a.Started) (H:Type) (enc:TypeId × Value->H) (F:Stop.Interp) :
  ReturnsInHanded {} Tryz.checked a 3 .any ((OpenSpec.ofChange Rows.fnExactOptStepSpec).preRow enc Tp Tryz.f3 Rows.fnExactOptStepRow.domain false Rows.fnExactOptStepRow.laid) (((OpenSpec.ofChange Rows.fnExactOptStepSpec).at F).post enc Tp Tryz.f3 false true false false):=by
 obtain⟨_,_,l,i⟩:=Gr a enc
 refine returnsInHanded_of_row (C:=Tryz.checked) (s:=OpenSpec.ofChange Rows.fnExactOptStepSpec) fnExactOptStep_own j kr func3
  (witness_row_at (enc:=enc) (C:=Tryz.checked) false ({ World.holding Tp a ⟨#[],#[],[]⟩ with heap:=(World.holding Tp a ⟨#[],#[],[]⟩).heap.modify 0 fun | .cells _ t frozen=>.cells cQ.toArray t frozen | o=>o }:World) nI rfl kr kr kr
   (OpenSpec.preRow_of_cond 8 i kr (fun k g=>by cases g) kr (laid_met a))) ?_
 intro W base args c d b h f _ _ _ e _ _;exact fnExactOptStep_contract H enc W base args c d b h f e
end
end Go.Proofs.YtbbffcolnddcdaaGreatDoor
