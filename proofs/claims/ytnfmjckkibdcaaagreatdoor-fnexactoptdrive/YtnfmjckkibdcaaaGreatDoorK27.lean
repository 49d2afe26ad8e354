import Derived.Laws.IdiomStrings
import Derived.Test.YtnfmjckkibdcaaaGreatDoorK12
import Derived.Deep.RegionWith
namespace Go.Proofs.YtnfmjckkibdcaaaGreatDoor
set_option linter.all false
open Option renaming none->nn,some->sQ
set_option maxRecDepth 20000
open Go.RowKit
set_option maxHeartbeats 16000000
open Go.Value renaming int->I,slice->sL,bool->bO,pointer->pT,agg->aG
open Go.IntKind renaming i64->J
open Go.Ending renaming returned->rT
open Go.Proofs.Tryz renaming prog->Tp
variable {b m:Nat} {w w':World}
structure fF (w:World) (b m:Nat):Prop where
 cell:∀ j,j<256->w.cell? ⟨b,3+j,nn⟩=sQ (I .u16 ((if j<m then M.kj j else 0:Nat):Int))
 free:∀ j,w.frozen? ⟨b,j,nn⟩=false
structure iT (b:Nat) (w w':World):Prop where
 bel:Below b w w'
 oth:∀ k,k≠b->w'.heap[k]?=w.heap[k]?
 low:∀ j,j<3->w'.cell? ⟨b,j,nn⟩=w.cell? ⟨b,j,nn⟩
def iT.refl (b:Nat) (w:World):iT b w w:=⟨bW _ _,fun _ _=>rfl,fun _ _=>rfl⟩
def iT.set (h:iT b w w') (j:Nat) (v:Value):iT b w (w'.setCell ⟨b,3+j,nn⟩ v):=
 ⟨h.bel.setCell (p:=⟨b,3+j,nn⟩) pQ v,fun k hk=>(QB w' ⟨b,3+j,nn⟩ k v hk).trans (h.oth k hk),fun i hi=>(QH _ _ _ _ (by intro e;simp at e;try omega)).trans (h.low i hi)⟩
def iT.drew (h:iT b w w'):iT b w w'.drew:=⟨h.bel.drew,h.oth,h.low⟩
def fF.drew (h:fF w b m):fF w.drew b m:=⟨h.cell,h.free⟩
def fF.put (h:fF w b m) (hm:m<256) (x:Int) (hx:x=(M.kj m:Int)):fF (w.setCell ⟨b,3+m,nn⟩ (I .u16 x)) b (m+1):=by
 refine⟨fun j hj=>?_,fun j=>by rw[Q1];exact h.free j⟩;by_cases e:j=m
 .subst e;rw[QT _ _ _ (h.cell j hj),zc om,hx]
 .rw[QH _ _ _ _ (by intro e2;simp at e2;try omega),h.cell j hj];by_cases h2:j<m
  .rw[zc h2,zc om]
  .rw[zb h2,zb om]
def Dy (j r:Nat) (hj:j<8) (hr:r<2 ^ j):bits BinOp.or IntKind.i64 ((2 ^ j:Nat):Int) (r:Int)=((2 ^ j+r:Nat):Int):=by
 have h1:(2:Nat) ^ j<=2 ^ 7:=qt (by decide) om;have h2:2 ^ j ||| r=2 ^ j+r:=by
  have:=Qe hr 1;rw[Nat.mul_one] at this;exact this.symm
 show IntKind.i64.wrap ((BitVec.ofInt 64 ((2 ^ j:Nat):Int) ||| BitVec.ofInt 64 (r:Int)).toNat:Int)=_;rw[BitVec.toNat_or,ofInt_u64 _ om,ofInt_u64 r om,h2,fT _ om om]
def zH (j r:Nat) (hj:j<8) (hr:r<2 ^ j):bits BinOp.xor IntKind.u16 (M.Dt (j+1):Int) (M.kj r:Int)=(M.kj (2 ^ j+r):Int):=by
 have h1:(2:Nat) ^ j<=2 ^ 7:=qt (by decide) om;have h2:2 ^ j ||| r=2 ^ j+r:=by
  have:=Qe hr 1;rw[Nat.mul_one] at this;exact this.symm
 have h3:=M.Ex j hj r om hr;rw[h2] at h3;rw[h3];have ha:=M.FC (j+1);have hb:=M.FI r om;generalize M.Dt (j+1)=x at *;generalize M.kj r=y at *;show IntKind.u16.wrap ((BitVec.ofInt 16 (x:Int) ^^^ BitVec.ofInt 16 (y:Int)).toNat:Int)=_;have hx:(BitVec.ofInt 16 (x:Int)).toNat=x:=by simp;omega
 have hy:(BitVec.ofInt 16 (y:Int)).toNat=y:=by simp;omega
 have hz:x ^^^ y<2 ^ 15:=Nat.xor_lt_two_pow ha hb;rw[BitVec.toNat_xor,hx,hy];simp[IntKind.wrap,IntKind.bits,IntKind.signed];omega
def zI (w:World) (b:Nat) (h:fF w b 1) :
  Calls Tp 284 #[pT (sQ ⟨b,0,nn⟩)] w fun o w'=>o = rT (.tuple #[])/\fF w' b 256/\iT b w w':=by
 go_enter Tryz.func284,Tryz.ntmps284;go_wp2;go_loopw [2,3] (fun r i wr=>∃ j:Nat,j<=8/\r = I J (M.Dt j:Int)/\i = I J ((2 ^ j:Nat):Int)/\fF wr b (2 ^ j)/\iT b w wr) (fun _ i _=>256-(intOf i).toNat);case atStart=>exact⟨0,by decide,rfl,rfl,h,iT.refl _ _⟩
 case round=>
  clear h;obtain⟨j,hj,rfl,rfl,ht,ho⟩:=hrel;by_cases hj8:j<8
  .have hp:(2:Nat) ^ j<=2 ^ 7:=qt (by decide) om;have hp1:0<(2:Nat) ^ j:=qX pQ;have hreg:=M.FC j;have hreg1:=M.FC (j+1);have HR:Hid (M.dM (M.Dt j) 0=M.Dt (j+1)):=rfl;have HO:Hid (∀ r:Nat,r<2 ^ j->bits BinOp.or IntKind.i64 ((2 ^ j:Nat):Int) (r:Int)=((2 ^ j+r:Nat):Int)):=fun r hr=>Dy j r hj8 hr;have HV:Hid (∀ r:Nat,r<2 ^ j->bits BinOp.xor IntKind.u16 (M.Dt (j+1):Int) (M.kj r:Int)=(M.kj (2 ^ j+r):Int)):=fun r hr=>zH j r hj8 hr;have HP:Hid (2 ^ (j+1)=2 ^ j+2 ^ j):=by show (2:Nat) ^ (j+1)=_;rw[qI];omega
   have HT:Hid (fF wr b (2 ^ j)/\iT b w wr):=⟨ht,ho⟩
   clear ht ho;generalize hq:(2:Nat) ^ j=q at *;have HQ:Hid ((2:Nat) ^ j=q):=hq;clear hq;have hp':q<=128:=hp;clear hp;have hlt:decide ((q:Int)<256)=true:=by simp;omega
   generalize M.Dt j=x at *;generalize hy:M.Dt (j+1)=y at *;have HY:Hid (M.Dt (j+1)=y):=hy;clear hy;go_wp2_with (go_at_call 247;refine (aH x 0 _ hreg).mono ?_;rw[HR.o];rintro o w1 ⟨rfl,rfl⟩);go_loopw [12] (fun i wr=>∃ r:Nat,r<=q/\i = I J (r:Int)/\fF wr b (q+r)/\iT b w wr) (fun i _=>q-(intOf i).toNat);case atStart=>exact⟨0,nZ _,rfl,HT.o.1,HT.o.2⟩
   case round=>
    clear HT;obtain⟨r,hr,rfl,ht,ho⟩:=hrel;by_cases hrq:r<q
    .have hor:=HO.o r hrq;have hc:=ht.cell r om;rw[zc om] at hc;have hc2:=ht.cell (q+r) om;have hf:=ht.free (3+(q+r));have HN:Hid (fF (wr.setCell ⟨b,3+(q+r),nn⟩ (I .u16 (bits BinOp.xor IntKind.u16 (y:Int) (M.kj r:Int)))) b (q+r+1)/\iT b w (wr.setCell ⟨b,3+(q+r),nn⟩ (I .u16 (bits BinOp.xor IntKind.u16 (y:Int) (M.kj r:Int))))):=⟨ht.put om _ (HV.o r hrq),ho.set _ _⟩
     clear ht ho;generalize M.kj r=z at *;go_wp2;go_region;go_wp2;refine⟨⟨r+1,om,by go_num,HN.o.1.drew,HN.o.2.drew⟩,by simp[intOf];omega⟩
    .have hrr:r=q:=om;subst hrr;go_wp2;go_roundw;case rel=>exact⟨j+1,om,by rw[HY.o],by rw[HP.o];go_num,by rw[HP.o];exact ht,ho⟩
     case measure=>simp[intOf];omega
  .have hj9:j=8:=om;subst hj9;go_wp2;go_end0;exact⟨rfl,ht,ho⟩
end Go.Proofs.YtnfmjckkibdcaaaGreatDoor
