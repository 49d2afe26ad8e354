import Derived.Test.YtkfcfigbgmbaiaaGreatK09
import Derived.Test.YtkfcfigbgmbaiaaGreatK07
namespace Go.Proofs.YtkfcfigbgmbaiaaGreat
open Go.ChangeShapes Go.WideShapes Go.ChangeAt Go.RowKit
theorem Tryz.cells31:Tryz.prog.cellsOf 31=21:=by kernel_rfl
theorem array21 {α:Type} {cs:Array α} (h:cs.size=21):∃ c0 c1 c2 c3 c4 c5 c6 c7 c8 c9 c10 c11 c12 c13 c14 c15 c16 c17 c18 c19 c20,cs = #[c0,c1,c2,c3,c4,c5,c6,c7,c8,c9,c10,c11,c12,c13,c14,c15,c16,c17,c18,c19,c20]:=by
 obtain⟨l⟩:=cs
 match l,h with
 | [c0,c1,c2,c3,c4,c5,c6,c7,c8,c9,c10,c11,c12,c13,c14,c15,c16,c17,c18,c19,c20],_=>exact⟨c0,c1,c2,c3,c4,c5,c6,c7,c8,c9,c10,c11,c12,c13,c14,c15,c16,c17,c18,c19,c20,rfl⟩
set_option maxRecDepth 40000 in
theorem core_open {H:Type} {enc:TypeId × Value→H} {W:World} {r:Reach} {b0:Nat} {v:Value} {d:DataW H} {p:List MemPlace}
  (hv:Value.okWide Tryz.prog W r b0 31 v) (h:DataW.Trod enc Tryz.prog W 0 (fun _=>true) true 31 v d p) :
  ∃ (C:Co) (s:Sl),v=coV C s∧isHo W C.ho s∧C.ho.le 9223372036854775807:=by
 obtain⟨cs,rfl,hsz⟩:=okWide_struct Tryz.underlying31 hv
 obtain⟨c0,c1,c2,c3,c4,c5,c6,c7,c8,c9,c10,c11,c12,c13,c14,c15,c16,c17,c18,c19,c20,rfl⟩:=array21 (hsz.trans Tryz.cells31)
 obtain⟨fuel,hf⟩:=h
 obtain⟨xs,n,_,_,_,hlen,hfs⟩:=DataW.trod_struct Tryz.underlying31 hf
 match xs,hlen with
 | [y0,y1,y2,y3,y4,y5,y6,y7,y8,y9,y10,y11],_=>
  have h0:DataW.trod enc Tryz.prog W 0 (fun _=>true) true n 3 (List.take (Tryz.prog.cellsOf 3) [c0,c1,c2,c3,c4,c5,c6,c7,c8,c9,c10,c11,c12,c13,c14,c15,c16,c17,c18,c19,c20])=some y0:=hfs 0 _ rfl
  have h1:DataW.trod enc Tryz.prog W 0 (fun _=>true) true n 3 (List.take (Tryz.prog.cellsOf 3) [c1,c2,c3,c4,c5,c6,c7,c8,c9,c10,c11,c12,c13,c14,c15,c16,c17,c18,c19,c20])=some y1:=hfs 1 _ rfl
  have h2:DataW.trod enc Tryz.prog W 0 (fun _=>true) true n 3 (List.take (Tryz.prog.cellsOf 3) [c2,c3,c4,c5,c6,c7,c8,c9,c10,c11,c12,c13,c14,c15,c16,c17,c18,c19,c20])=some y2:=hfs 2 _ rfl
  have h3:DataW.trod enc Tryz.prog W 0 (fun _=>true) true n 4 (List.take (Tryz.prog.cellsOf 4) [c3,c4,c5,c6,c7,c8,c9,c10,c11,c12,c13,c14,c15,c16,c17,c18,c19,c20])=some y3:=hfs 3 _ rfl
  have h4:DataW.trod enc Tryz.prog W 0 (fun _=>true) true n 4 (List.take (Tryz.prog.cellsOf 4) [c4,c5,c6,c7,c8,c9,c10,c11,c12,c13,c14,c15,c16,c17,c18,c19,c20])=some y4:=hfs 4 _ rfl
  have h5:DataW.trod enc Tryz.prog W 0 (fun _=>true) true n 4 (List.take (Tryz.prog.cellsOf 4) [c5,c6,c7,c8,c9,c10,c11,c12,c13,c14,c15,c16,c17,c18,c19,c20])=some y5:=hfs 5 _ rfl
  have h6:DataW.trod enc Tryz.prog W 0 (fun _=>true) true n 4 (List.take (Tryz.prog.cellsOf 4) [c6,c7,c8,c9,c10,c11,c12,c13,c14,c15,c16,c17,c18,c19,c20])=some y6:=hfs 6 _ rfl
  have h7:DataW.trod enc Tryz.prog W 0 (fun _=>true) true n 4 (List.take (Tryz.prog.cellsOf 4) [c7,c8,c9,c10,c11,c12,c13,c14,c15,c16,c17,c18,c19,c20])=some y7:=hfs 7 _ rfl
  have h8:DataW.trod enc Tryz.prog W 0 (fun _=>true) true n 3 (List.take (Tryz.prog.cellsOf 3) [c8,c9,c10,c11,c12,c13,c14,c15,c16,c17,c18,c19,c20])=some y8:=hfs 8 _ rfl
  have h9:DataW.trod enc Tryz.prog W 0 (fun _=>true) true n 3 (List.take (Tryz.prog.cellsOf 3) [c9,c10,c11,c12,c13,c14,c15,c16,c17,c18,c19,c20])=some y9:=hfs 9 _ rfl
  have h10:DataW.trod enc Tryz.prog W 0 (fun _=>true) true n 3 (List.take (Tryz.prog.cellsOf 3) [c10,c11,c12,c13,c14,c15,c16,c17,c18,c19,c20])=some y10:=hfs 10 _ rfl
  have h11:DataW.trod enc Tryz.prog W 0 (fun _=>true) true n 29 (List.take (Tryz.prog.cellsOf 29) [c11,c12,c13,c14,c15,c16,c17,c18,c19,c20])=some y11:=hfs 11 _ rfl
  rw[Tryz.cells3] at h0 h1 h2 h8 h9 h10
  rw[Tryz.cells4] at h3 h4 h5 h6 h7
  rw[Tryz.cells29] at h11
  obtain⟨x0,e0,_,_⟩:=DataW.trod_int Tryz.underlying3 h0
  obtain⟨x1,e1,_,_⟩:=DataW.trod_int Tryz.underlying3 h1
  obtain⟨x2,e2,_,_⟩:=DataW.trod_int Tryz.underlying3 h2
  obtain⟨x3,e3,_⟩:=DataW.trod_bool Tryz.underlying4 h3
  obtain⟨x4,e4,_⟩:=DataW.trod_bool Tryz.underlying4 h4
  obtain⟨x5,e5,_⟩:=DataW.trod_bool Tryz.underlying4 h5
  obtain⟨x6,e6,_⟩:=DataW.trod_bool Tryz.underlying4 h6
  obtain⟨x7,e7,_⟩:=DataW.trod_bool Tryz.underlying4 h7
  obtain⟨x8,e8,_,_⟩:=DataW.trod_int Tryz.underlying3 h8
  obtain⟨x9,e9,_,_⟩:=DataW.trod_int Tryz.underlying3 h9
  obtain⟨x10,e10,_,_⟩:=DataW.trod_int Tryz.underlying3 h10
  obtain⟨ho,s,e11,r11,l11⟩:=host_open h11
  refine⟨⟨x0,x1,x2,x3,x4,x5,x6,x7,x8,x9,x10,ho⟩,s,?_,r11,l11⟩
  simp at e0 e1 e2 e3 e4 e5 e6 e7 e8 e9 e10 e11
  obtain⟨q0,q1,q2,q3,q4,q5,q6,q7,q8,q9⟩:=e11
  rw[e0,e1,e2,e3,e4,e5,e6,e7,e8,e9,e10,q0,q1,q2,q3,q4,q5,q6,q7,q8,q9]
end Go.Proofs.YtkfcfigbgmbaiaaGreat
