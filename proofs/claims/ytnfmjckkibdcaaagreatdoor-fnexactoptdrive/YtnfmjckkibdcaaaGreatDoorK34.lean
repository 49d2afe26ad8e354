import Derived.Test.YtnfmjckkibdcaaaGreatDoorK33
import Derived.Test.YtnfmjckkibdcaaaGreatDoorK29
namespace Go.Proofs.YtnfmjckkibdcaaaGreatDoor
open Go.RowKit
set_option linter.all false
def tI (E:ByteArray) (i:Nat) (h:i<E.size):E[i]=E.data.toList[i]'(by rw[<- Go.Lib.size_eq];exact h):=by
 rw[Array.getElem_toList];rfl
def AP (l:List Nat) (h:∀ x ∈ l,M.isL x) (i:Nat) (hi:i<(ae l).size):(ae l)[i].toNat=48\/(ae l)[i].toNat=49:=by
 have hl:i<l.length:=by rw[<- aN];exact hi
 have e:(ae l)[i].toNat=l[i] % 256:=by
  rw[tI _ i hi];simp[ae]
 have h2:=h l[i] (zh hl);rw[e];rcases h2 with h2 | h2 <;> rw[h2] <;> decide
def zP (e:Bool) (i:Nat) (r:Bool) (d:Int) (l:List Nat) (h:vB e i r d l.length=true) (hl:l.length<=8):10<=(eV e i r d l.length l).size/\(eV e i r d l.length l).size<=1000/\∀ k (hk:k<(eV e i r d l.length l).size),(eV e i r d l.length l)[k].toNat=48\/(eV e i r d l.length l)[k].toNat=49:=by
 have e1:eV e i r d l.length l=ae (M.fP (ab e i r d.toNat l)++List.replicate 10 49):=by unfold eV;rw[zc h]
 rw[e1];have hL:∀ x ∈ M.fP (ab e i r d.toNat l)++List.replicate 10 49,M.isL x:=by
  intro x hx;rcases List.mem_append.1 hx with h1|h1
  .exact M.Em _ (cQ e i r d.toNat l) x h1
  .exact qy (List.eq_of_mem_replicate h1)
 refine⟨?_,?_,fun k hk=>AP _ hL k hk⟩
 .rw[aN,qe,List.length_replicate];omega
 .rw[aN,qe,List.length_replicate];have h1:=M.El (ab e i r d.toNat l);have h2:=ew e i r d.toNat l;split at h2 <;> omega
def iA (C:Co) (h:g9 C) (hw:wrP C.ho.bx):10<=(dq C).size/\(dq C).size<=1000/\∀ i (hi:i<(dq C).size),(dq C)[i].toNat=48\/(dq C)[i].toNat=49:=by
 have hk:=kC hw;have h1:=h.h.bx.1 (onI C.ho.bx) hk;have hx:C.ho.bx[onI C.ho.bx].x≠0:=by
  have:=List.findIdx_getElem (xs:=C.ho.bx) (p:=fun b:R8=>b.x == 2 || b.x == 3) (w:=hk);intro e;have h2:(C.ho.bx[onI C.ho.bx].x == 2 || C.ho.bx[onI C.ho.bx].x == 3)=true:=this;rw[e] at h2;simp at h2
 unfold cZ at h1;rw[zb hx] at h1;rw[jq C hk];have hv:=h1.2.2.2;generalize C.ho.bx[onI C.ho.bx]=b at *;exact zP _ _ _ _ _ hv (cN hv).2.2.2.2
end Go.Proofs.YtnfmjckkibdcaaaGreatDoor
