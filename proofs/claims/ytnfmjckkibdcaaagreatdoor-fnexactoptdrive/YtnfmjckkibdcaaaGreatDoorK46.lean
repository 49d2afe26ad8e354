import Derived.Test.YtnfmjckkibdcaaaGreatDoorK08
import Derived.Test.YtnfmjckkibdcaaaGreatDoorK43
namespace Go.Proofs.YtnfmjckkibdcaaaGreatDoor
open Option renaming none->nn,some->sQ
set_option maxRecDepth 40000
open Go.ChangeShapes Go.WideShapes Go.ChangeAt Go.RowKit
set_option linter.all false
open Go.Value renaming int->I,slice->sL,bool->bO,pointer->pT,agg->aG
open Go.IntKind renaming i64->J
open Go.Ending renaming returned->rT
open Go.Proofs.Tryz renaming prog->Tp
def Tryz.cells31:Tp.cellsOf 31=21:=kr
def Tryz.cells66:Tp.cellsOf 66=11:=kr
def Tryz.cells67:Tp.cellsOf 67=2:=kr
def Tryz.cells69:Tp.cellsOf 69=35:=kr
def Tryz.cells50:Tp.cellsOf 50=1:=kr
def Tryz.cells125:Tp.cellsOf 125=1:=kr
section
variable {H : Type} {enc : TypeId × Value -> H} {W : World} {fuel : Nat} {cs : List Value} {x : DataW H × List MemPlace}
def IN (hf:DataW.trod enc Tp W 0 (fun _=>true) true fuel 31 cs=sQ x):∃ (C:Co) (s:Sl),cs=coL C s/\aK W C.ho s/\C.ho.le 9223372036854775807:=by
 obtain⟨n,h,hl⟩:=GZ Tryz.underlying31 hf;rw[Tryz.cells31] at hl;obtain⟨x0,e0⟩:=h.int 0 0 ⟨_,rfl,rfl,rfl⟩;obtain⟨x1,e1⟩:=h.int 1 1 ⟨_,rfl,rfl,rfl⟩;obtain⟨x2,e2⟩:=h.int 2 2 ⟨_,rfl,rfl,rfl⟩;obtain⟨x3,e3⟩:=h.bool 3 3 ⟨_,rfl,rfl,rfl⟩;obtain⟨x4,e4⟩:=h.bool 4 4 ⟨_,rfl,rfl,rfl⟩;obtain⟨x5,e5⟩:=h.bool 5 5 ⟨_,rfl,rfl,rfl⟩;obtain⟨x6,e6⟩:=h.bool 6 6 ⟨_,rfl,rfl,rfl⟩;obtain⟨x7,e7⟩:=h.bool 7 7 ⟨_,rfl,rfl,rfl⟩;obtain⟨x8,e8⟩:=h.int 8 8 ⟨_,rfl,rfl,rfl⟩;obtain⟨x9,e9⟩:=h.int 9 9 ⟨_,rfl,rfl,rfl⟩;obtain⟨x10,e10⟩:=h.int 10 10 ⟨_,rfl,rfl,rfl⟩;obtain⟨y,hy⟩:=h 11 _ rfl;have h11:DataW.trod enc Tp W 0 (fun _=>true) true n 29 ((cs.drop 11).take (Tp.cellsOf 29))=sQ y:=hy;rw[Tryz.cells29,ze (by rw[Qh,hl];decide)] at h11;obtain⟨ho,s,e11,r11,l11⟩:=wQ h11;refine⟨⟨x0,x1,x2,x3,x4,x5,x6,x7,x8,x9,x10,ho⟩,s,?_,r11,l11⟩;rw[show cs=cs.drop 0 from rfl,e0,e1,e2,e3,e4,e5,e6,e7,e8,e9,e10,e11];rfl
def IE (hf:DataW.trod enc Tp W 0 (fun _=>true) true fuel 66 cs=sQ x):∃ (S:Sc) (a:Option Addr) (n k:Nat),cs=scL S a n k/\iB W a n k S.l/\n<=maxLen:=by
 obtain⟨n,h,hl⟩:=GZ Tryz.underlying66 hf;rw[Tryz.cells66] at hl;obtain⟨x0,e0⟩:=h.int 0 0 ⟨_,rfl,rfl,rfl⟩;obtain⟨x1,e1⟩:=h.int 1 1 ⟨_,rfl,rfl,rfl⟩;obtain⟨x2,e2⟩:=h.int 2 2 ⟨_,rfl,rfl,rfl⟩;obtain⟨x3,e3⟩:=h.int 3 3 ⟨_,rfl,rfl,rfl⟩;obtain⟨x4,e4⟩:=h.int 4 4 ⟨_,rfl,rfl,rfl⟩;obtain⟨x5,e5⟩:=h.int 5 5 ⟨_,rfl,rfl,rfl⟩;obtain⟨y,hy⟩:=h 6 _ rfl;have h6:DataW.trod enc Tp W 0 (fun _=>true) true n 64 ((cs.drop 6).take (Tp.cellsOf 64))=sQ y:=hy;rw[Tryz.cells64,ze (by rw[Qh,hl];decide)] at h6;obtain⟨b,a,m,cap,e6,r1,r2⟩:=jA h6;refine⟨⟨x0,x1,x2,x3,x4,x5,b.e,b.i,b.r,b.d,b.l⟩,a,m,cap,?_,r1,r2⟩;rw[show cs=cs.drop 0 from rfl,e0,e1,e2,e3,e4,e5,e6];rfl
def Hy {v:Value} (h:DataW.trod enc Tp W 0 (fun _=>true) true fuel 50 [v]=sQ x):∃ a n cap l,v = sL a n cap/\bP W a n cap l/\n<=maxLen:=by
 rcases open_ints Tryz.underlying50 Tryz.underlying125 Tryz.cells125 h with⟨hcs,_⟩|⟨x,n,c,zs,hcs,_,hl,hm,hz,_,hcell,hwz⟩
 .simp at hcs;exact⟨nn,0,0,[],hcs,⟨rfl,nR _,(fun x hx=>by cases hx),fun e=>Qz rfl e⟩,by unfold maxLen;omega⟩
 .simp at hcs;have hz':zs.length=c:=by simpa using hz
  have hb:∀ z ∈ zs,0<=z/\z<18446744073709551616:=by
   intro z hzz;have:=bounds_u64 (hwz z hzz);omega
  have hlen:(zs.take n).length=n:=by rw[qj];omega
  refine⟨sQ x,n,c,(zs.take n).map Int.toNat,hcs,⟨by rw[qV,hlen],hl,?_,?_⟩,om⟩
  .intro u hu;rw[List.mem_map] at hu;obtain⟨z,hz1,rfl⟩:=hu;have:=hb z (qL hz1);omega
  .intro hne;have hn0:0<n:=by
    rcases Nat.eq_zero_or_pos n with e|e
    .subst e;simp at hne
    .exact e
   obtain⟨b,off,spot⟩:=x;have hc0:=hcell 0 om;have hspot:spot=nn:=by simpa[Addr.add] using World.cell?_spot hc0
   subst hspot;refine⟨b,off,rfl,fun j hj=>?_⟩;have hj':j<n:=by rw[qV,hlen] at hj;exact hj
   have hcj:=hcell j om;have e2:(⟨b,off,nn⟩ : Addr).add j=⟨b,off+j,nn⟩:=by simp only[Addr.add];split <;> simp_all
   rw[e2] at hcj;rw[hcj];have hzj:zs.getD j 0=zs[j]'om:=by simp[List.getD,show j<zs.length by omega]
   have hbj:=hb (zs[j]'om) (zh _);rw[hzj,Qi,List.getElem_take];congr 2;omega
def Hm (hf:DataW.trod enc Tp W 0 (fun _=>true) true fuel 67 cs=sQ x):∃ (N:Int) (a:Option Addr) (n k:Nat) (l:List Nat),cs=[I J N,sL a n k]/\bP W a n k l/\n<=maxLen:=by
 obtain⟨n,h,hl⟩:=GZ Tryz.underlying67 hf;rw[Tryz.cells67] at hl;match cs,hl with
 | [c0,c1],_=>
  obtain⟨x0,e0⟩:=h.int 0 0 ⟨_,rfl,rfl,rfl⟩;obtain⟨y,hy⟩:=h 1 _ rfl;have h1:DataW.trod enc Tp W 0 (fun _=>true) true n 50 ([c1].take (Tp.cellsOf 50))=sQ y:=hy;rw[Tryz.cells50] at h1;obtain⟨a,m,cap,l,e1,r1,r2⟩:=Hy h1;refine⟨x0,a,m,cap,l,?_,r1,r2⟩;simp at e0;rw[e0,e1]
end
end Go.Proofs.YtnfmjckkibdcaaaGreatDoor
