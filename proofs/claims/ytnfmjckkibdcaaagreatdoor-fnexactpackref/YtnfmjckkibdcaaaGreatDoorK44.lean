import Derived.Test.YtnfmjckkibdcaaaGreatDoorK08
import Derived.Test.YtnfmjckkibdcaaaGreatDoorK37
namespace Go.Proofs.YtnfmjckkibdcaaaGreatDoor
set_option linter.all false
open Option renaming none->nn,some->sQ
set_option maxRecDepth 40000
open Go.ChangeShapes Go.WideShapes Go.ChangeAt Go.RowKit
open Go.Value renaming int->I,slice->sL,bool->bO,pointer->pT,agg->aG
open Go.IntKind renaming i64->J
open Go.Ending renaming returned->rT
open Go.Proofs.Tryz renaming prog->Tp
variable {W:World}
def Tryz.cells31:Tp.cellsOf 31=21:=kr
def tX {H:Type} {enc:TypeId × Value->H} {fuel:Nat} {x:DataW H × List MemPlace} {c0 c1 c2 c3 c4 c5 c6 c7 c8 c9 c10 c11 c12 c13 c14 c15 c16 c17 c18 c19 c20:Value}
  (hf:DataW.trod enc Tp W 0 (fun _=>true) true fuel 31 [c0,c1,c2,c3,c4,c5,c6,c7,c8,c9,c10,c11,c12,c13,c14,c15,c16,c17,c18,c19,c20]=sQ x) :
  ∃ (C:Co) (s:Sl),#[c0,c1,c2,c3,c4,c5,c6,c7,c8,c9,c10,c11,c12,c13,c14,c15,c16,c17,c18,c19,c20]=(coL C s).toArray/\aK W C.ho s/\C.ho.le 9223372036854775807:=by
 obtain⟨xs,n,_,_,_,hlen,hfs⟩:=Q0 Tryz.underlying31 hf;match xs,hlen with
 | [y0,y1,y2,y3,y4,y5,y6,y7,y8,y9,y10,y11],_=>
  have h0:DataW.trod enc Tp W 0 (fun _=>true) true n 3 (List.take (Tp.cellsOf 3) [c0,c1,c2,c3,c4,c5,c6,c7,c8,c9,c10,c11,c12,c13,c14,c15,c16,c17,c18,c19,c20])=sQ y0:=hfs 0 _ rfl;have h1:DataW.trod enc Tp W 0 (fun _=>true) true n 3 (List.take (Tp.cellsOf 3) [c1,c2,c3,c4,c5,c6,c7,c8,c9,c10,c11,c12,c13,c14,c15,c16,c17,c18,c19,c20])=sQ y1:=hfs 1 _ rfl;have h2:DataW.trod enc Tp W 0 (fun _=>true) true n 3 (List.take (Tp.cellsOf 3) [c2,c3,c4,c5,c6,c7,c8,c9,c10,c11,c12,c13,c14,c15,c16,c17,c18,c19,c20])=sQ y2:=hfs 2 _ rfl;have h3:DataW.trod enc Tp W 0 (fun _=>true) true n 4 (List.take (Tp.cellsOf 4) [c3,c4,c5,c6,c7,c8,c9,c10,c11,c12,c13,c14,c15,c16,c17,c18,c19,c20])=sQ y3:=hfs 3 _ rfl;have h4:DataW.trod enc Tp W 0 (fun _=>true) true n 4 (List.take (Tp.cellsOf 4) [c4,c5,c6,c7,c8,c9,c10,c11,c12,c13,c14,c15,c16,c17,c18,c19,c20])=sQ y4:=hfs 4 _ rfl;have h5:DataW.trod enc Tp W 0 (fun _=>true) true n 4 (List.take (Tp.cellsOf 4) [c5,c6,c7,c8,c9,c10,c11,c12,c13,c14,c15,c16,c17,c18,c19,c20])=sQ y5:=hfs 5 _ rfl;have h6:DataW.trod enc Tp W 0 (fun _=>true) true n 4 (List.take (Tp.cellsOf 4) [c6,c7,c8,c9,c10,c11,c12,c13,c14,c15,c16,c17,c18,c19,c20])=sQ y6:=hfs 6 _ rfl;have h7:DataW.trod enc Tp W 0 (fun _=>true) true n 4 (List.take (Tp.cellsOf 4) [c7,c8,c9,c10,c11,c12,c13,c14,c15,c16,c17,c18,c19,c20])=sQ y7:=hfs 7 _ rfl;have h8:DataW.trod enc Tp W 0 (fun _=>true) true n 3 (List.take (Tp.cellsOf 3) [c8,c9,c10,c11,c12,c13,c14,c15,c16,c17,c18,c19,c20])=sQ y8:=hfs 8 _ rfl;have h9:DataW.trod enc Tp W 0 (fun _=>true) true n 3 (List.take (Tp.cellsOf 3) [c9,c10,c11,c12,c13,c14,c15,c16,c17,c18,c19,c20])=sQ y9:=hfs 9 _ rfl;have h10:DataW.trod enc Tp W 0 (fun _=>true) true n 3 (List.take (Tp.cellsOf 3) [c10,c11,c12,c13,c14,c15,c16,c17,c18,c19,c20])=sQ y10:=hfs 10 _ rfl;have h11:DataW.trod enc Tp W 0 (fun _=>true) true n 29 (List.take (Tp.cellsOf 29) [c11,c12,c13,c14,c15,c16,c17,c18,c19,c20])=sQ y11:=hfs 11 _ rfl;rw[Tryz.cells3] at h0 h1 h2 h8 h9 h10;rw[Tryz.cells4] at h3 h4 h5 h6 h7;rw[Tryz.cells29] at h11;obtain⟨x0,e0,_,_⟩:=QP Tryz.underlying3 h0;obtain⟨x1,e1,_,_⟩:=QP Tryz.underlying3 h1;obtain⟨x2,e2,_,_⟩:=QP Tryz.underlying3 h2;obtain⟨x3,e3,_⟩:=Q5 Tryz.underlying4 h3;obtain⟨x4,e4,_⟩:=Q5 Tryz.underlying4 h4;obtain⟨x5,e5,_⟩:=Q5 Tryz.underlying4 h5;obtain⟨x6,e6,_⟩:=Q5 Tryz.underlying4 h6;obtain⟨x7,e7,_⟩:=Q5 Tryz.underlying4 h7;obtain⟨x8,e8,_,_⟩:=QP Tryz.underlying3 h8;obtain⟨x9,e9,_,_⟩:=QP Tryz.underlying3 h9;obtain⟨x10,e10,_,_⟩:=QP Tryz.underlying3 h10;obtain⟨ho,s,e11,r11,l11⟩:=wQ h11;refine⟨⟨x0,x1,x2,x3,x4,x5,x6,x7,x8,x9,x10,ho⟩,s,?_,r11,l11⟩;simp at e0 e1 e2 e3 e4 e5 e6 e7 e8 e9 e10 e11;obtain⟨q0,q1,q2,q3,q4,q5,q6,q7,q8,q9⟩:=e11;rw[e0,e1,e2,e3,e4,e5,e6,e7,e8,e9,e10,q0,q1,q2,q3,q4,q5,q6,q7,q8,q9];rfl
def Tryz.cells33:Tp.cellsOf 33=22:=kr
def Tryz.cells9s:Tp.cellsOf 9=1:=kr
def Ci {α:Type} {cs:Array α} (h:cs.size=22):∃ c0 c1 c2 c3 c4 c5 c6 c7 c8 c9 c10 c11 c12 c13 c14 c15 c16 c17 c18 c19 c20 c21,cs = #[c0,c1,c2,c3,c4,c5,c6,c7,c8,c9,c10,c11,c12,c13,c14,c15,c16,c17,c18,c19,c20,c21]:=by
 obtain⟨l⟩:=cs;match l,h with
 | [c0,c1,c2,c3,c4,c5,c6,c7,c8,c9,c10,c11,c12,c13,c14,c15,c16,c17,c18,c19,c20,c21],_=>exact⟨c0,c1,c2,c3,c4,c5,c6,c7,c8,c9,c10,c11,c12,c13,c14,c15,c16,c17,c18,c19,c20,c21,rfl⟩
def yo {H:Type} {enc:TypeId × Value->H} {r:Reach} {b0:Nat} {v:Value} {d:DataW H} {p:List MemPlace}
  (hv:Value.okWide Tp W r b0 33 v) (h:DataW.Trod enc Tp W 0 (fun _=>true) true 33 v d p) :
  ∃ (C:Co) (s:Sl) (hd:ByteArray),v = aG (rfL C s hd).toArray/\aK W C.ho s/\C.ho.le 9223372036854775807/\hd.size<=maxLen:=by
 obtain⟨cs,rfl,hsz⟩:=okWide_struct Tryz.underlying33 hv;obtain⟨c0,c1,c2,c3,c4,c5,c6,c7,c8,c9,c10,c11,c12,c13,c14,c15,c16,c17,c18,c19,c20,c21,rfl⟩:=Ci (hsz.trans Tryz.cells33);obtain⟨fuel,hf⟩:=h;obtain⟨xs,n,_,_,_,hlen,hfs⟩:=Q0 Tryz.underlying33 hf;match xs,hlen with
 | [y0,y1],_=>
  have h0:DataW.trod enc Tp W 0 (fun _=>true) true n 31 (List.take (Tp.cellsOf 31) [c0,c1,c2,c3,c4,c5,c6,c7,c8,c9,c10,c11,c12,c13,c14,c15,c16,c17,c18,c19,c20,c21])=sQ y0:=hfs 0 _ rfl;have h1:DataW.trod enc Tp W 0 (fun _=>true) true n 9 (List.take (Tp.cellsOf 9) [c21])=sQ y1:=hfs 1 _ rfl;rw[Tryz.cells31] at h0;rw[Tryz.cells9s] at h1;obtain⟨C,s,e,r1,r2⟩:=tX (show DataW.trod enc Tp W 0 (fun _=>true) true n 31 [c0,c1,c2,c3,c4,c5,c6,c7,c8,c9,c10,c11,c12,c13,c14,c15,c16,c17,c18,c19,c20]=sQ y0 from h0);obtain⟨hd,e1,_,r3⟩:=DataW.trod_string Tryz.underlying9 h1;refine⟨C,s,hd,?_,r1,r2,r3⟩;simp only[List.take_succ_cons,List.take_nil,List.cons.injEq,and_true] at e1;have e2:[c0,c1,c2,c3,c4,c5,c6,c7,c8,c9,c10,c11,c12,c13,c14,c15,c16,c17,c18,c19,c20]=coL C s:=congrArg Array.toList e;show Value.agg ([c0,c1,c2,c3,c4,c5,c6,c7,c8,c9,c10,c11,c12,c13,c14,c15,c16,c17,c18,c19,c20]++[c21]).toArray=_;rw[e2,e1];rfl
end Go.Proofs.YtnfmjckkibdcaaaGreatDoor
