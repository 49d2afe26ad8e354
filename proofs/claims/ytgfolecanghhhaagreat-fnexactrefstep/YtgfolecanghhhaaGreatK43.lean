import Derived.Test.YtgfolecanghhhaaGreatK30
import Derived.Test.YtgfolecanghhhaaGreatK42
namespace Go.Proofs.YtgfolecanghhhaaGreat
open Option renaming none->nn,some->sQ
open Go.RowKit
set_option linter.all false
open Go.Value renaming int->I,slice->sL,bool->bO,pointer->pT,agg->aG
open Go.IntKind renaming i64->J
open Go.Ending renaming returned->rT
open Go.Proofs.Tryz renaming prog->Tp
section
variable {W : World}
def j0.ffG {B T g n k:Nat} {bs:List R5} (h:j0 B T 67 g n k bs W):∃ hs,ffR W g 0 n k 0 bs hs T/\az W g (k*5)/\B<=g/\∀ j b,j<bs.length->(hs j).1=sQ ⟨b,0,nn⟩->B<=b:=by
 obtain⟨rs,ho,hm,hn,hg,hall⟩:=h;have hown:=ho.own;subst hm;have hF:=Iw hown;rcases cS hown with⟨e,_⟩|⟨g1,c1,e,q1,q2,q3,q4,q5⟩
 .cases e
 cases e;refine⟨fun j=>(rs.map fun p=>((sQ ⟨p.2.1,0,nn⟩,p.1.l.length,p.2.2):Hd)).getD j (nn,0,0),⟨by simp;omega,om,fun j hj=>?_,fun t ht=>Qy ht om,fun j hj=>?_,hg⟩,hF,ho.lt.1,fun j b hj hb=>?_⟩
 .have hj':j<rs.length:=by simpa using hj
  have e:x5 ((rs.map (·.1))[j],(rs.map fun p=>((sQ ⟨p.2.1,0,nn⟩,p.1.l.length,p.2.2):Hd)).getD j (nn,0,0))=rc5.enc rs[j]:=by
   simp[x5,f5,rc5,List.getD,hj']
  rw[e];intro t u hu;have ht:t<5:=by have:=(List.getElem?_eq_some_iff.mp hu).1;simpa[rc5] using this
  exact q5 (j*5+t) u (by rw[oM rc5.enc 5 (fun _=>rfl) rs j hj' t ht];exact hu) |> fun h=>by rw[qi] at h ⊢;exact h
 .have hj':j<rs.length:=by simpa using hj
  have hm:=qn hj';obtain⟨d1,d2,d3,d4⟩:=ho.dat rs[j] hm;simp only[Qh,List.getD,List.getElem?_map,qy hj',Option.map_some,Option.getD_some];exact⟨d1,_,rfl,d3,hall _ hm⟩
 .have hj':j<rs.length:=by simpa using hj
  have hm:=qn hj';simp only[List.getD,List.getElem?_map,qy hj',Option.map_some,Option.getD_some] at hb;cases hb;exact (ho.dat rs[j] hm).2.1
def MI (W:World) (H:Ho) (s:Sl) (h:aK W H s) (hn:H.le 1048576):Calls Tp 55 #[aG (hoL H s).toArray] W fun o w'=>∃ s' κ,o = rT (aG (hoL H s').toArray)/\hG κ H s' w'/\(∀ x,x<W.heap.size+3->κ x=0)/\Bl W w':=by
 rw[<- Gt];refine (JH W H s h hn).mono ?_;rintro o w' ⟨gf,kf,gb,kb,gq,kq,g4,k4,T0,T1,T2,T3,rfl,⟨o1,o2,o3,o4,o5,o6⟩,hst,hrf,hb⟩;obtain⟨h1,h2,h3,h4⟩:=hst.now;obtain⟨hs,h2⟩:=h2.bxR;obtain⟨hs5,f1,f2,f3,f4⟩:=h3.ffG;obtain⟨rs,ho,hmap,hlen,hgT,hall⟩:=h4;have hc:∃ κ:Nat->Nat,(∀ x,x<W.heap.size+3->κ x=0)/\(∀ x,w'.heap.size<=x->κ x=0)/\(∀ x,W.heap.size+3<=x->x<T0->κ x=1)/\(∀ x,T0<=x->x<T1->κ x=2)/\(∀ x,T1<=x->x<T2->κ x=3)/\∀ x,T2<=x->x<w'.heap.size->κ x=4:=by
  refine⟨fun x=>if x<W.heap.size+3\/w'.heap.size<=x then 0 else if x<T0 then 1 else if x<T1 then 2 else if x<T2 then 3 else 4,fun x hx=>?_,fun x hx=>?_,fun x h1 h2=>?_,fun x h1 h2=>?_,fun x h1 h2=>?_,fun x h1 h2=>?_⟩
  .exact qc (qr hx)
  .exact qc (qx hx)
  .dsimp only;rw[qa om,qc h2]
  .dsimp only;rw[qa om,qa om,qc h2]
  .dsimp only;rw[qa om,qa om,qa om,qc h2]
  .dsimp only;rw[qa om,qa om,qa om,qa om]
 obtain⟨κ,k0,kz,k1,k2,k3,k4'⟩:=hc;refine⟨⟨sQ ⟨gf,0,nn⟩,s.n1,kf,sQ ⟨gb,0,nn⟩,s.n2,kb,sQ ⟨gq,0,nn⟩,s.n3,kq,sQ ⟨g4,0,nn⟩,s.n4,k4⟩,κ,by rw[Gt],⟨⟨gf,rfl,k1 _ o1 o2,Hc hrf.now (nZ _),h1⟩,⟨gb,hs,rfl,k2 _ h2.lo h2.hi,⟨h2.len,h2.cap,nZ _,by have:=h2.hi;omega,h2.row,h2.rng,fun j hj=>?_⟩,fun j b hj hb=>?_⟩,⟨gq,0,hs5,rfl,k3 _ f3 f1.hi,by rw[qi];exact f2,f1.mono om,fun j b hj hb=>k3 _ (f4 j b hj hb) ?_⟩,⟨g4,rs,rfl,k4' _ ho.lt.1 om,⟨Hc ho.own (nZ _),fun p hp=>?_⟩,hmap,hlen,fun p hp=>k4' _ (ho.dat p hp).2.1 (by have:=hall p hp;omega)⟩,fun x hx=>Nat.lt_of_not_le fun h=>hx (kz x h)⟩,k0,hb⟩
 .obtain⟨d1,d2|⟨b,d2,d3,d4,d5⟩⟩:=h2.dat j hj
  .exact⟨d1,qr d2⟩
  .exact⟨d1,qx ⟨b,d2,nZ _,om,d5⟩⟩
 .obtain⟨d1,d2|⟨c,d2,d3,d4,d5⟩⟩:=h2.dat j hj
  .rw[d2.1] at hb;cases hb
  .rw[d2] at hb;cases hb;exact k2 _ d3 d4
 .obtain⟨_,c,d2,d3,d4⟩:=f1.dat j hj;rw[d2] at hb;cases hb;exact d4
 .obtain⟨d1,d2,d3,d4⟩:=ho.dat p hp;exact⟨d1,nZ _,d3,d4⟩
end
end Go.Proofs.YtgfolecanghhhaaGreat
