import Derived.Test.YtnfmjckkibdcaaaGreatDoorK46
import Derived.Test.YtnfmjckkibdcaaaGreatDoorK45
namespace Go.Proofs.YtnfmjckkibdcaaaGreatDoor
set_option maxRecDepth 40000
open Go.ChangeShapes Go.WideShapes Go.ChangeAt Go.RowKit
set_option linter.all false
open Go.Value renaming int->I,slice->sL,bool->bO,pointer->pT,agg->aG
open Go.IntKind renaming i64->J
open Go.Ending renaming returned->rT
open Go.Proofs.Tryz renaming prog->Tp
def Jd {H:Type} {enc:TypeId × Value->H} {W:World} {r:Reach} {b0:Nat} {v:Value} {d:DataW H} {p:List MemPlace}
  (hv:Value.okWide Tp W r b0 69 v) (h:DataW.Trod enc Tp W 0 (fun _=>true) true 69 v d p) :
  ∃ (A:Ov) (q:Os),v = aG (oL A q).toArray/\oI W A q/\A.c.ho.le 9223372036854775807/\A.s.l.length<=9223372036854775807/\A.w.length<=9223372036854775807:=by
 obtain⟨⟨cs⟩,rfl,hsz⟩:=okWide_struct Tryz.underlying69 hv;obtain⟨fuel,hf⟩:=h;obtain⟨n,h,hl⟩:=GZ Tryz.underlying69 hf;have hl:cs.length=35:=hl.trans Tryz.cells69;have h:IK enc W n cs _:=h;obtain⟨y0,g0⟩:=h 0 _ rfl;have h0:DataW.trod enc Tp W 0 (fun _=>true) true n 31 ((cs.drop 0).take (Tp.cellsOf 31))=some y0:=g0;obtain⟨y1,g1⟩:=h 1 _ rfl;have h1:DataW.trod enc Tp W 0 (fun _=>true) true n 66 ((cs.drop 21).take (Tp.cellsOf 66))=some y1:=g1;obtain⟨y2,g2⟩:=h 2 _ rfl;have h2:DataW.trod enc Tp W 0 (fun _=>true) true n 67 ((cs.drop 32).take (Tp.cellsOf 67))=some y2:=g2;obtain⟨cu,e3⟩:=h.int 3 34 ⟨_,rfl,rfl,rfl⟩;rw[Tryz.cells31] at h0;rw[Tryz.cells66] at h1;rw[Tryz.cells67] at h2;obtain⟨C,s,e0,r1,r2⟩:=IN h0;obtain⟨S,a,m,k,e1,r3,r4⟩:=IE h1;obtain⟨N,aw,mw,kw,l,e2,r5,r6⟩:=Hm h2;have q3:=r3.len;have q5:=r5.len;refine⟨⟨C,S,N,cu,l⟩,⟨s,a,m,k,aw,mw,kw⟩,?_,⟨r1,r3,r5⟩,r2,by unfold maxLen at r4;show S.l.length<=_;omega,by unfold maxLen at r6;show l.length<=_;omega⟩;have t0:=List.take_append_drop 21 cs;have t1:=List.take_append_drop 11 (cs.drop 21);have t2:=List.take_append_drop 2 (cs.drop 32);rw[List.drop_drop] at t1 t2;rw[show cs.take 21=coL C s from e0] at t0;rw[e1] at t1;rw[e2,e3,qq om] at t2;rw[<- t0,<- t1,<- t2];rfl
end Go.Proofs.YtnfmjckkibdcaaaGreatDoor
