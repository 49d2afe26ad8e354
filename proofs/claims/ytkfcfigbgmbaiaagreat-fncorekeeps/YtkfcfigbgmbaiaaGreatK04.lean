import Derived.Test.YtkfcfigbgmbaiaaGreatK00
import Derived.Deep.RegionHeld3
import Derived.ProofKit
import Derived.OpenShut
import Derived.Lib.SmallJoins
namespace Go.Proofs.YtkfcfigbgmbaiaaGreat
open Go.ChangeShapes Go.WideShapes Go.ChangeAt Go.RowKit
open Go.Value renaming int→I,slice→sL,bool→bO,pointer→pT,agg→aG
open Go.IntKind renaming i64→J
open Go.Ending renaming returned→rT
open Go.Proofs.Tryz renaming prog→Tp
theorem Tryz.cells5:Tp.cellsOf 5=1:=by kernel_rfl
theorem bytes_open {H:Type} {enc:TypeId × Value→H} {W:World} {fuel:Nat} {v:Value} {y:DataW H × List MemPlace}
  (h:DataW.trod enc Tp W 0 (fun _=>true) true fuel 50 [v]=some y):∃ a n cap l,v = sL a n cap∧iB W a n cap l∧n≤maxLen:=by
 rcases open_ints Tryz.underlying50 Tryz.underlying5 Tryz.cells5 h with⟨hcs,_⟩|⟨x,n,c,zs,hcs,_,hl,hm,hz,_,hcell,hwz⟩
 ·simp at hcs
  exact⟨none,0,0,[],hcs,⟨rfl,nR _,(fun x hx=>by cases hx),fun e=>absurd rfl e⟩,by unfold maxLen;omega⟩
 ·simp at hcs
  have hz':zs.length=c:=by simpa using hz
  have hb:∀ z ∈ zs,0≤z∧z<256:=by
   intro z hzz;have:=bounds_u8 (hwz z hzz)
   omega
  have hlen:(zs.take n).length=n:=by rw[List.length_take];omega
  refine⟨some x,n,c,(zs.take n).map Int.toNat,hcs,⟨by rw[List.length_map,hlen],hl,?_,?_⟩,by omega⟩
  ·intro u hu;rw[List.mem_map] at hu
   obtain⟨z,hz1,rfl⟩:=hu
   have:=hb z (List.mem_of_mem_take hz1)
   omega
  ·intro hne;have hn0:0<n:=by
    rcases Nat.eq_zero_or_pos n with e|e
    ·subst e;simp at hne
    ·exact e
   obtain⟨b,off,spot⟩:=x
   have hc0:=hcell 0 (by omega)
   have hspot:spot=none:=by simpa[Addr.add] using World.cell?_spot hc0
   subst hspot;refine⟨b,off,rfl,fun j hj=>?_⟩
   have hj':j<n:=by rw[List.length_map,hlen] at hj;exact hj
   have hcj:=hcell j (by omega)
   have e2:(⟨b,off,none⟩ : Addr).add j=⟨b,off+j,none⟩:=by simp only[Addr.add];split <;> simp_all
   rw[e2] at hcj
   rw[hcj]
   have hzj:zs.getD j 0=zs[j]'(by omega):=by simp[List.getD,show j<zs.length by omega]
   have hbj:=hb (zs[j]'(by omega)) (List.getElem_mem _)
   rw[hzj,List.getElem_map,List.getElem_take]
   congr 2
   omega
end Go.Proofs.YtkfcfigbgmbaiaaGreat
