import Derived.Test.YtnfmjckkibdcaaaGreatDoorK42
import Derived.Test.YtnfmjckkibdcaaaGreatDoorK29
import Derived.Test.YtnfmjckkibdcaaaGreatDoorK39
namespace Go.Proofs.YtnfmjckkibdcaaaGreatDoor
open Go.RowKit
set_option linter.all false
def zE {hd:ByteArray} (h:(bH hd).code=0\/(bH hd).code=1):goL (lt hd):=by
 unfold bH at h;by_cases hk:okT hd 4000=true
 .rw[qc hk] at h;exact⟨gC hk,CC _ _ (by unfold av;simpa using h)⟩
 .rw[qa hk] at h;simp at h
def ya (hd:ByteArray):ae (lt hd)=hd:=by
 have e:(lt hd).map UInt8.ofNat=hd.data.toList:=by
  unfold lt;rw[List.map_map];exact (Qn (fun x _=>by simp)).trans (List.map_id _)
 unfold ae;rw[e]
def BI (e:Bool) (i:Nat) (r:Bool) (d:Int) (l:List Nat) (hv:vB e i r d l.length=true) (hs:∀ x ∈ l,x<256) (hd:ByteArray) (h:imB (eV e i r d l.length l) hd):goL (lt hd):=by
 have hd0:0<=d/\d<=15/\(l.length:Int)=dl r d:=by
  unfold vB at hv;simp only[qx,qQ,beq_iff_eq] at hv;exact⟨hv.1.1.2,hv.1.2,hv.2⟩
 have hf:lG r d.toNat l:=by
  refine⟨om,?_,hs⟩;have:=hd0.2.2;unfold dl at this;cases r
  .simp at this ⊢;omega
  .simp at this ⊢;simpa using this
 obtain⟨h1,h2⟩:=h;unfold eV at h1 h2;simp only[hv,if_true] at h1 h2;generalize eS:M.fP (ab e i r d.toNat l)=SL at *;have hz:(ae (SL++List.replicate 10 49)).size=SL.length+10:=by
  show (List.toArray _).size=_;simp
 have hJ:fS e i r d.toNat l 48=SL++df 48:=by unfold fS;rw[eS]
 have hlen:(fS e i r d.toNat l 48).length=SL.length+10:=by rw[hJ];simp[df]
 rw[hz] at h1;have hL:lt hd=(fS e i r d.toNat l 48).take hd.size:=by
  refine List.ext_getElem (by rw[ba,qj];omega) fun j q1 q2=>?_;rw[ba] at q1;have a1:(lt hd)[j]'(by rw[ba];exact q1)=hd[j].toNat:=by simp[lt];rfl
  have a2:=h2 j q1 (by rw[hz];omega);have a3:(ae (SL++List.replicate 10 49))[j]'(by rw[hz];omega)=UInt8.ofNat ((SL++List.replicate 10 49)[j]'(by simp;omega)):=by
   rw[tI];simp only[ae,Qi]
  rw[a1,a2,a3,hz,List.getElem_take];simp only[hJ];by_cases hj:j<SL.length
  .rw[qa om,qO hj,qO hj];have hl:M.isL SL[j]:=by
    have:=rq e i r d.toNat l 48 (qr rfl) SL[j] (by rw[hJ];exact List.mem_append_left _ (qn hj));exact this
   rcases hl with h | h <;> rw[h] <;> rfl
  .have hj':SL.length<=j:=om;rw[List.getElem_append_right hj',List.getElem_append_right hj',List.getElem_replicate];obtain⟨q,rfl⟩ : ∃ q,j=SL.length+q:=⟨j-SL.length,om⟩
   have hq:q<10:=om;simp only[Qq];clear a1 a2 a3;rcases (by omega:q=0\/q=1\/q=2\/q=3\/q=4\/q=5\/q=6\/q=7\/q=8\/q=9) with rfl | rfl | rfl | rfl | rfl | rfl | rfl | rfl | rfl | rfl <;> first | (rw[qc om];rfl) | (rw[qa om];rfl)
 refine zE ?_;have hc:=zx e i r d.toNat l 48 hf (qr rfl) hd.size om;rw[<- hL,ya] at hc;rw[hc,qa om];split
 .exact qy rfl
 .exact qr rfl
end Go.Proofs.YtnfmjckkibdcaaaGreatDoor
