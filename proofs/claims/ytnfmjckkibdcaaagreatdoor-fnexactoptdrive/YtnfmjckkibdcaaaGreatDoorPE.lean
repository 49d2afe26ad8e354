import Derived.Test.YtnfmjckkibdcaaaGreatDoorK47
import Derived.ShutString
import Derived.Test.YtnfmjckkibdcaaaGreatDoorRows
import Derived.Test.YtnfmjckkibdcaaaGreatDoorCards
import Derived.Test.YtnfmjckkibdcaaaGreatDoorTie
import Derived.WalkKit
import Derived.ProofKit
import Derived.OpenShut
import Derived.Carry
import Derived.ChangeVars
import Derived.ChangeOld
import Derived.Below
import Derived.Deep.DeepHandedRow
import Derived.Lib.LaidTab
namespace Go.Proofs.YtnfmjckkibdcaaaGreatDoor
open Option renaming none->nn,some->sQ
set_option maxRecDepth 100000
open Go.ChangeShapes Go.WideShapes Go.ChangeAt Go.RowKit
set_option linter.all false
open Go.Value renaming int->I,slice->sL,bool->bO,pointer->pT,agg->aG
open Go.IntKind renaming i64->J
open Go.Ending renaming returned->rT
open Go.Proofs.Tryz renaming prog->Tp
variable {W:World} {sp:Nat->Bool} {held:Bool} {fuel:Nat} {cs:List Value}
def Tryz.cells299:Tp.cellsOf 299=3:=kr
def Tryz.cells336:Tp.cellsOf 336=42:=kr
def vT {H:Type} {enc:TypeId × Value->H} {a b c:Int} {p:List MemPlace}
  (h:DataW.trod enc Tp W 0 sp held fuel 299 cs=sQ (.agg [.lit (.int .i64 a),.lit (.int .i64 b),.lit (.int .i64 c)],p)):cs=[I J a,I J b,I J c]:=by
 obtain⟨xs,n,_,hx,hcl,hlen,hfs⟩:=Q0 Tryz.underlying299 h;rw[Tryz.cells299] at hcl;match cs,hcl with
 | [c0,c1,c2],_=>
  match xs,hlen with
  | [y0,y1,y2],_=>
   have h0:DataW.trod enc Tp W 0 sp held n 3 (List.take (Tp.cellsOf 3) [c0,c1,c2])=sQ y0:=hfs 0 _ rfl;have h1:DataW.trod enc Tp W 0 sp held n 3 (List.take (Tp.cellsOf 3) [c1,c2])=sQ y1:=hfs 1 _ rfl;have h2:DataW.trod enc Tp W 0 sp held n 3 (List.take (Tp.cellsOf 3) [c2])=sQ y2:=hfs 2 _ rfl;rw[Tryz.cells3] at h0 h1 h2;obtain⟨x0,e0,f0,_⟩:=QP Tryz.underlying3 h0;obtain⟨x1,e1,f1,_⟩:=QP Tryz.underlying3 h1;obtain⟨x2,e2,f2,_⟩:=QP Tryz.underlying3 h2;rw[f0,f1,f2] at hx;simp at hx e0 e1 e2;obtain⟨⟨rfl,rfl,rfl⟩,_⟩:=hx;rw[e0,e1,e2]
theorem fnExactOptDrive_own:ownKnob Tp.godebug=nn:=kr
theorem fnExactOptDrive_laidOut:laidOutB Tp=true:=kr
def E9 : Tp.globalNamed "loop.example/s01647/impl.fieldRows" = sQ 0 := by kernel_rfl
def rA:(Tp.globals[0]?).map (·.type)=sQ 336:=kr
def Tryz.underlying336':Tp.underlying 336=sQ (.array 14 299):=kr
def vF {H:Type} {enc:TypeId × Value->H} {p:List MemPlace}
  (h:DataW.trod enc Tp W 0 sp held fuel 336 cs=sQ (Rows.laid_loop_example_s01647_impl_fieldRows,p)):cs=bV:=by
 obtain⟨xs,m,_,hx,hcl,hlen,hel⟩:=DataW.trod_array Tryz.underlying336' h;rw[Tryz.cells336] at hcl;rw[Tryz.cells299] at hel;match xs,hlen with
 | [y0,y1,y2,y3,y4,y5,y6,y7,y8,y9,y10,y11,y12,y13],_=>
  have hd:=congrArg Prod.fst hx;simp only[Rows.laid_loop_example_s01647_impl_fieldRows,Qy,List.map_nil,DataW.agg.injEq,List.cons.injEq,and_true] at hd;obtain⟨d0,d1,d2,d3,d4,d5,d6,d7,d8,d9,d10,d11,d12,d13⟩:=hd;have key:∀ (i:Nat) (y:DataW H × List MemPlace) (a b c:Int),i<14->[y0,y1,y2,y3,y4,y5,y6,y7,y8,y9,y10,y11,y12,y13][i]?=sQ y->DataW.agg [.lit (.int .i64 a),.lit (.int .i64 b),.lit (.int .i64 c)]=y.1->List.take 3 (List.drop (i*3) cs)=[I J a,I J b,I J c]:=by
   intro i y a b c hi hy hd;have h1:=hel i hi;rw[hy] at h1;obtain⟨yd,yp⟩:=y;simp only at hd;subst hd;exact vT h1
  have k0:=key 0 y0 _ _ _ (by decide) rfl d0;have k1:=key 1 y1 _ _ _ (by decide) rfl d1;have k2:=key 2 y2 _ _ _ (by decide) rfl d2;have k3:=key 3 y3 _ _ _ (by decide) rfl d3;have k4:=key 4 y4 _ _ _ (by decide) rfl d4;have k5:=key 5 y5 _ _ _ (by decide) rfl d5;have k6:=key 6 y6 _ _ _ (by decide) rfl d6;have k7:=key 7 y7 _ _ _ (by decide) rfl d7;have k8:=key 8 y8 _ _ _ (by decide) rfl d8;have k9:=key 9 y9 _ _ _ (by decide) rfl d9;have k10:=key 10 y10 _ _ _ (by decide) rfl d10;have k11:=key 11 y11 _ _ _ (by decide) rfl d11;have k12:=key 12 y12 _ _ _ (by decide) rfl d12;have k13:=key 13 y13 _ _ _ (by decide) rfl d13;have split3:∀ (i:Nat),cs.drop (i*3)=(cs.drop (i*3)).take 3++cs.drop ((i+1)*3):=by
   intro i;have:cs.drop ((i+1)*3)=(cs.drop (i*3)).drop 3:=by rw[List.drop_drop];congr 1;omega
   rw[this,List.take_append_drop]
  have e0:=split3 0;simp only[Nat.zero_mul,List.drop_zero] at e0;rw[e0,split3 (0+1),split3 (0+1+1),split3 3,split3 4,split3 5,split3 6,split3 7,split3 8,split3 9,split3 10,split3 11,split3 12,split3 13];have k0':List.take 3 cs=[I J 1,I J 1,I J 2]:=by simpa using k0
  rw[k0',k1,k2,k3,k4,k5,k6,k7,k8,k9,k10,k11,k12,k13];have:cs.drop ((13+1)*3)=[]:=qq om;rw[this];rfl
def xS (h:laidMetH Tp Rows.fnExactOptDriveRow.laid W):W.rangeAt 0 0 bV:=by
 rw[MakeChecks.laidMetH_plain _ _ _ kr] at h;obtain⟨ps,⟨g0,t0,cs0,f0,p0,q0,hg0,ht0,hv0,hd0,_⟩,_,_⟩:=h;obtain rfl:=Qd (E9.symm.trans hg0);obtain rfl:=Qd (rA.symm.trans ht0);have e:=vF hd0;intro j v hv;have:=World.var?_cell hg0 hv0 j;rw[zf,this];rw[<- e] at hv;simpa using hv
theorem fnExactOptDrive_contract (H:Type) (enc:TypeId × Value->H) (W:World) (base:Nat) (args:Array Value) (ds gs:List (DataW H)) (before:List MemPlace)
  (hval:∀ (j:Nat) t v,Tryz.f4.params[j]?=sQ t->args[j]?=sQ v->Value.okWide Tp W .any base t v)
  (hW:DataW.Whole enc Tp Tryz.f4.params.toList Rows.fnExactOptDriveSpec.vars false W args.toList ds gs before) (hL:laidMetH Tp Rows.fnExactOptDriveRow.laid W) :
  Calls Tp 4 args W fun e W'=>∃ v,e = rT v/\Rows.fnExactOptDriveSpec.post enc Tp Tryz.f4 false true false false W args v W':=by
 have hW':=hW;obtain⟨p,q,hA0,hV,rfl,hfz,hnd⟩:=hW;have hA:DataW.TrodAll enc Tp W 0 (fun _=>true) true Tryz.f4.params.toList args.toList ds p:=hA0;rw[Tryz.params4] at hA hval;obtain⟨v0,vs0,d0,ds0,p0,q0,hargs,rfl,rfl,h0,r0⟩:=trodAll_cons hA;obtain⟨rfl,rfl,rfl⟩:=trodAll_nil r0;obtain rfl:args = #[v0]:=by cases args;simp_all
 obtain⟨g,t,cs,fuel,dg,pg,rfl,hg,ht,hvar,htr,rfl⟩:=trodVars_one hV;obtain rfl:=Qd (E9.symm.trans hg);obtain rfl:=Qd (rA.symm.trans ht);have k0:=h0;have lt0:∀ x ∈ p0,x.block<W.heap.size:=by obtain⟨m,hm⟩:=k0;exact DataW.trod_lt m _ _ _ hm
 have ltg:∀ x ∈ pg,x.block<W.heap.size:=DataW.trod_lt fuel _ _ _ htr;obtain⟨A0,s0,rfl,w0,m1,m2,m3⟩:=Jd (hval 0 69 v0 rfl rfl) h0;clear hA0;have hz:0<W.heap.size:=by
  have:=World.var?_cell hg hvar 0;rcases Nat.eq_zero_or_pos W.heap.size with e|e
  .exfalso;have ht0:W.rangeAt 0 0 bV:=xS hL;have hc:W.cell? ⟨0,0,nn⟩=sQ (I J 1):=ht0 0 _ rfl;have:=QD W _ hc;simp only at this;omega
  .exact e
 refine (Hs A0 s0 W (xS hL) hz w0 m1 m2 m3).mono fun e W' ⟨he,bel⟩=>?_
 subst he;have hvar' : W'.var? Tp "loop.example/s01647/impl.fieldRows" = sQ cs := by
  simp only[World.var?,hg,Option.bind_some] at hvar ⊢;rw[bel.block 0 hz];exact hvar
 have kg:DataW.Trod enc Tp W 0 (fun _=>true) true 336 (aG cs) dg pg:=⟨fuel,htr⟩
 obtain⟨fuel',htr'⟩:=Below.trod fnExactOptDrive_laidOut kr (qP kr) kg bel ltg;exact⟨_,rfl,_,_,_,[],_,_,hW',trodAll_mk1 (shut_bool Tryz.underlying4 _),trodAll_cons_mk (Below.trod fnExactOptDrive_laidOut kr (qP kr) k0 bel lt0) trodAll_mk0,trodVars_mk1 hg ht hvar' htr',bel.frame _,fun h=>by cases h⟩
abbrev mJ:Array Value:=#[aG #[I J 0,I J 0,I J 0,bO false,bO false,bO false,bO false,bO false,I J 0,I J 0,I J 0,I J 0,I J 0,I J 0,I J 0,sL nn 0 0,sL nn 0 0,sL nn 0 0,sL nn 0 0,I J 0,I J 0,I J 0,I J 0,I J 0,I J 0,I J 0,I J 0,bO false,I .u32 0,bO false,I J 0,sL nn 0 0,I J 0,sL nn 0 0,I J 0]]
def laid_met (os:Go.Os):laidMet Tp Rows.fnExactOptDriveRow.laid (({ World.holding Tp os ⟨#[],#[],[]⟩ with heap:=(World.holding Tp os ⟨#[],#[],[]⟩).heap.modify 0 fun | .cells _ t frozen=>.cells bV.toArray t frozen | o=>o }:World).forCall (fun _ _=>0) ⟨#[],mJ,[]⟩).memory:=
 laidMet_of_run' 8 kr kr
def EG (os:Go.Os) {H:Type} (enc:TypeId × Value->H):∃ ds gs places,DataW.whole enc Tp (({ World.holding Tp os ⟨#[],#[],[]⟩ with heap:=(World.holding Tp os ⟨#[],#[],[]⟩).heap.modify 0 fun | .cells _ t frozen=>.cells bV.toArray t frozen | o=>o }:World).forCall (fun _ _=>0) ⟨#[],mJ,[]⟩).memory Tryz.f4.params.toList Rows.fnExactOptDriveSpec.vars false mJ.toList 8=sQ (ds,gs,places):=by
 have h:(DataW.whole enc Tp (({ World.holding Tp os ⟨#[],#[],[]⟩ with heap:=(World.holding Tp os ⟨#[],#[],[]⟩).heap.modify 0 fun | .cells _ t frozen=>.cells bV.toArray t frozen | o=>o }:World).forCall (fun _ _=>0) ⟨#[],mJ,[]⟩).memory Tryz.f4.params.toList Rows.fnExactOptDriveSpec.vars false mJ.toList 8).isSome=true:=kr;obtain⟨⟨ds,gs,pl⟩,hx⟩:=Option.isSome_iff_exists.1 h;exact⟨ds,gs,pl,hx⟩
theorem fnExactOptDrive_lifted (os:Go.Os) (started:os.Started) (H:Type) (enc:TypeId × Value->H) (F:Stop.Interp) :
  ReturnsInHanded {} Tryz.checked os 4 .any ((OpenSpec.ofChange Rows.fnExactOptDriveSpec).preRow enc Tp Tryz.f4 Rows.fnExactOptDriveRow.domain false Rows.fnExactOptDriveRow.laid) (((OpenSpec.ofChange Rows.fnExactOptDriveSpec).at F).post enc Tp Tryz.f4 false true false false):=by
 obtain⟨_,_,places,hx⟩:=EG os enc
 refine returnsInHanded_of_row (C:=Tryz.checked) (s:=OpenSpec.ofChange Rows.fnExactOptDriveSpec) fnExactOptDrive_own started kr Tryz.func4
  (witness_row_at (enc:=enc) (C:=Tryz.checked) false ({ World.holding Tp os ⟨#[],#[],[]⟩ with heap:=(World.holding Tp os ⟨#[],#[],[]⟩).heap.modify 0 fun | .cells _ t frozen=>.cells bV.toArray t frozen | o=>o }:World) mJ rfl kr kr kr
   (OpenSpec.preRow_of_cond 8 hx kr (fun k hk=>by cases hk) kr (laid_met os))) ?_
 intro W base args ds gs before hval hW _ _ _ hL _ _;exact fnExactOptDrive_contract H enc W base args ds gs before hval hW hL
end Go.Proofs.YtnfmjckkibdcaaaGreatDoor
