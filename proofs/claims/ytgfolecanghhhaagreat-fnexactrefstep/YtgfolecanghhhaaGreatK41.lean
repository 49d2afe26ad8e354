import Derived.Test.YtgfolecanghhhaaGreatK24
import Derived.Test.YtgfolecanghhhaaGreatK39
namespace Go.Proofs.YtgfolecanghhhaaGreat
open Go.RowKit
set_option linter.all false
def Ks (e:Bool) (i:Nat) (r:Bool) (d:Int) (l:List Nat) (hv:vB e i r d l.length=true) (hs:∀ x ∈ l,x<256) (hd:ByteArray) (h:imB (eV e i r d l.length l) hd):lt hd=(ie e i r d.toNat l 48).take hd.size/\lG r d.toNat l:=by
 have hd0:0<=d/\d<=15/\(l.length:Int)=dl r d:=by
  unfold vB at hv;simp only[qw,qP,beq_iff_eq] at hv;exact⟨hv.1.1.2,hv.1.2,hv.2⟩
 have hf:lG r d.toNat l:=by
  refine⟨om,?_,hs⟩;have:=hd0.2.2;unfold dl at this;cases r
  .simp at this ⊢;omega
  .simp at this ⊢;simpa using this
 obtain⟨h1,h2⟩:=h;unfold eV at h1 h2;simp only[hv,if_true] at h1 h2;generalize eS:M.fP (ab e i r d.toNat l)=SL at *;have hz:(ae (SL++List.replicate 10 49)).size=SL.length+10:=by
  show (List.toArray _).size=_;simp
 have hJ:ie e i r d.toNat l 48=SL++df 48:=by unfold ie;rw[eS]
 have hlen:(ie e i r d.toNat l 48).length=SL.length+10:=by rw[hJ];simp[df]
 rw[hz] at h1;have hL:lt hd=(ie e i r d.toNat l 48).take hd.size:=by
  refine List.ext_getElem (by rw[ba,qj];omega) fun j q1 q2=>?_;rw[ba] at q1;have a1:(lt hd)[j]'(by rw[ba];exact q1)=hd[j].toNat:=by simp[lt];rfl
  have a2:=h2 j q1 (by rw[hz];omega);have a3:(ae (SL++List.replicate 10 49))[j]'(by rw[hz];omega)=UInt8.ofNat ((SL++List.replicate 10 49)[j]'(by simp;omega)):=by
   rw[tI];simp only[ae,Qh]
  rw[a1,a2,a3,hz,List.getElem_take];simp only[hJ];by_cases hj:j<SL.length
  .rw[qa om,qN hj,qN hj];have hl:M.isL SL[j]:=by
    have:=Ji e i r d.toNat l 48 (qr rfl) SL[j] (by rw[hJ];exact List.mem_append_left _ (qn hj));exact this
   rcases hl with h | h <;> rw[h] <;> rfl
  .have hj':SL.length<=j:=om;rw[List.getElem_append_right hj',List.getElem_append_right hj',List.getElem_replicate];obtain⟨q,rfl⟩ : ∃ q,j=SL.length+q:=⟨j-SL.length,om⟩
   have hq:q<10:=om;simp only[Qp];clear a1 a2 a3;rcases (by omega:q=0\/q=1\/q=2\/q=3\/q=4\/q=5\/q=6\/q=7\/q=8\/q=9) with rfl | rfl | rfl | rfl | rfl | rfl | rfl | rfl | rfl | rfl <;> first | (rw[qc om];rfl) | (rw[qa om];rfl)
 exact⟨hL,hf⟩
open Go.Value renaming int->I,slice->sL,bool->bO,pointer->pT,agg->aG
open Go.IntKind renaming i64->J
open Go.Ending renaming returned->rT
def ya (hd:ByteArray):ae (lt hd)=hd:=by
 have e:(lt hd).map UInt8.ofNat=hd.data.toList:=by
  unfold lt;rw[List.map_map];exact (Qm (fun x _=>by simp)).trans (List.map_id _)
 unfold ae;rw[e]
def JF (e:Bool) (i:Nat) (r:Bool) (d:Int) (l:List Nat) (hv:vB e i r d l.length=true) (hs:∀ x ∈ l,x<256) (hd:ByteArray) (h:imB (eV e i r d l.length l) hd) (hz:hd.size+1=(eV e i r d l.length l).size) (vc vf:Nat) (vd vo:Bool) (hj:sjV (swZ hd).1 (swZ hd).2.1 (swZ hd).2.2 = aG #[I J (vc:Int),I J (vf:Int),bO vd,bO vo]):vf≠12:=by
 obtain⟨hL,hf⟩:=Ks e i r d l hv hs hd h;have hn:hd.size=(M.fP (ab e i r d.toNat l)).length+9:=by
  have h2:(eV e i r d l.length l).size=(M.fP (ab e i r d.toNat l)).length+10:=by
   unfold eV;simp only[hv,if_true];show (List.toArray _).size=_;simp
  omega
 have hw:swZ hd=(1,ab e i r d.toNat l++(df 48).take 9,false):=by
  have h1:=Bw e i r d.toNat l 48 hf (qr rfl) hd.size (by rw[GP];omega);rw[<- hL,ya] at h1;rw[h1,hn];exact mN e i r d.toNat l 48 hf (qr rfl) 9 (by decide)
 rw[hw] at hj;have hpl:=jB e i r d.toNat l ((df 48).take 9) hf;have hfl:ar (ab e i r d.toNat l++(df 48).take 9)=14:=by
  have hlen:(ab e i r d.toNat l++(df 48).take 9).length=(ag e i r d.toNat l).length+15+9:=by rw[qe,gu];rfl
  have hE:aY (ab e i r d.toNat l++(df 48).take 9)<=cv (ab e i r d.toNat l++(df 48).take 9):=by unfold cv;omega
  rw[hpl.2] at hE;rw[dG,hlen,hpl.2];exact (IS 9 _ _ (bz _) hE (by decide)).trans (by decide)
 have e1:sjV 1 (ab e i r d.toNat l++(df 48).take 9) false = aG #[I J (1:Nat),I J (14:Nat),bO false,bO (gn (ab e i r d.toNat l++(df 48).take 9))]:=by
  unfold sjV;rw[qc (by decide),hfl]
 have hj2:sjV 1 (ab e i r d.toNat l++(df 48).take 9) false = aG #[I J (vc:Int),I J (vf:Int),bO vd,bO vo]:=hj;rw[e1] at hj2;simp at hj2;omega
end Go.Proofs.YtgfolecanghhhaaGreat
