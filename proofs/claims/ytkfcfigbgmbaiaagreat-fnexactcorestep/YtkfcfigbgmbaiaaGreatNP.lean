import Derived.Test.YtkfcfigbgmbaiaaGreatG32
namespace Go.Proofs.YtkfcfigbgmbaiaaGreat
open Go.RowKit
set_option linter.unusedVariables false
theorem okHo.n4 {H:Ho} (h:okHo H):H.qu.length≤1000:=by
 have h1:=of_decide_eq_true h.cf
 have h2:=h.nq
 omega
def okRel (H:Ho) (R:Ho) (T:Ho):Prop:=(okHo H∧T=R)∨(¬ okHo H∧T=zHo)
theorem okRel.yes {H R T:Ho} (h:okRel H R T) (hok:okHo H):T=R:=by
 rcases h with⟨_,e⟩|⟨h,_⟩
 ·exact e
 ·exact absurd hok h
theorem okRel.no {H R T:Ho} (h:okRel H R T) (hok:¬ okHo H):T=zHo:=by
 rcases h with⟨h,_⟩|⟨_,e⟩
 ·exact absurd h hok
 ·exact e
theorem copyS (W:World) (H:Ho) (s:Sl) (h:isHo W H s) (hn:H.le 1048576):Calls Tryz.prog 67 #[.agg (hoL H s).toArray] W fun o w'=>∃ s' T0 T1 T2,o = .returned (.agg (hoL H s').toArray)∧spS (W.heap.size+3) T0 T1 T2 H s' w'∧s'.n2=H.bx.length∧s'.n4=H.qu.length∧Below W.heap.size W w':=by
 rw[← hoV_L]
 refine (l3copy_own W H s h hn).mono ?_
 rintro o w' ⟨gf,kf,gb,kb,gq,kq,g4,k4,T0,T1,T2,T3,rfl,⟨o1,o2,o3,o4,o5,o6⟩,hst,hb⟩;obtain⟨h1,h2,h3,h4⟩:=hst.now
 obtain⟨hs,h2'⟩:=h2.bxR
 exact⟨⟨some ⟨gf,0,none⟩,s.n1,kf,some ⟨gb,0,none⟩,s.n2,kb,some ⟨gq,0,none⟩,s.n3,kq,some ⟨g4,0,none⟩,s.n4,k4⟩,T0,T1,T2,by rw[hoV_L],⟨⟨gf,rfl,o1,o2,h1⟩,⟨gb,hs,rfl,h2'⟩,⟨gq,rfl,h3⟩,⟨g4,rfl,h4.mono o6⟩,⟨by omega,o3,o4,by omega⟩⟩,h.bx.len,h.qu.len,hb⟩
end Go.Proofs.YtkfcfigbgmbaiaaGreat
