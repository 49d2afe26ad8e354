import Derived.Test.YtkfcfigbgmbaiaaGreatK44
import Derived.Test.YtkfcfigbgmbaiaaGreatK04
import Derived.Test.YtkfcfigbgmbaiaaGreatRows
import Derived.WalkKit
import Derived.ProofKit
import Derived.OpenShut
import Derived.ShutString
import Derived.ChangeOld
import Derived.Below
namespace Go.Proofs.YtkfcfigbgmbaiaaGreat
set_option maxRecDepth 100000
open Go.ChangeShapes Go.WideShapes Go.ChangeAt Go.RowKit
open Go.ChangeMaps (open_string shut_string)
set_option linter.unusedVariables false
open Go.Value renaming int→I,slice→sL,bool→bO,pointer→pT,agg→aG
open Go.IntKind renaming i64→J
open Go.Ending renaming returned→rT
open Go.Proofs.Tryz renaming prog→Tp
theorem code_open {H:Type} {enc:TypeId × Value→H} {W:World} {r:Reach} {b0:Nat} {v:Value} {d:DataW H} {p:List MemPlace}
  (hv:Value.okWide Tp W r b0 50 v) (h:DataW.Trod enc Tp W 0 (fun _=>true) true 50 v d p) :
  ∃ a n cap l,v = sL a n cap∧iB W a n cap l∧n≤maxLen:=by
 obtain⟨a,n,cap,rfl⟩:=Go.WideShapes.okWide_slice Tryz.underlying50 hv
 obtain⟨fuel,hf⟩:=h
 exact bytes_open (v:=sL a n cap) (by simpa[Value.cells] using hf)
theorem fnCoreKeeps_own:ownKnob Tp.godebug=none:=by kernel_rfl
theorem fnCoreKeeps_laidOut:laidOutB Tp=true:=by kernel_rfl
theorem fnCoreKeeps_lifted (os:Os) (started:os.Started) (H:Type) (enc:TypeId × Value→H) :
  ReturnsInHanded {} Tryz.checked os 7 .any (Rows.fnCoreKeepsSpec.pre6 enc Tp Tryz.f7 Rows.fnCoreKeepsRow.domain false) (Rows.fnCoreKeepsSpec.post enc Tp Tryz.f7 false true false false):=by
 refine returnsInHanded_of_change (C:=Tryz.checked) fnCoreKeeps_own started (by kernel_rfl) Tryz.func7
  (ChangeSpec.witness6 (enc:=enc) (C:=Tryz.checked) false ⟨#[],#[sL none 0 0,sL none 0 0],[]⟩ 8 (by kernel_rfl) (by kernel_rfl) (by kernel_rfl) (by kernel_rfl)) ?_
 intro W base args ds gs before hval0 hW hcnd _;have hval:∀ (j:Nat) t v,Tryz.f7.params[j]?=some t→args[j]?=some v→Value.okWide Tp W .any base t v:=hval0
 have hW':=hW
 obtain⟨p,q,hA0,hV,rfl,hfz,hnd⟩:=hW
 have hA:DataW.TrodAll enc Tp W 0 (fun _=>true) true Tryz.f7.params.toList args.toList ds p:=hA0
 rw[Tryz.params7] at hA hval
 obtain⟨v0,vs0,d0,ds0,p0,q0,hargs,rfl,rfl,h0,r0⟩:=trodAll_cons hA
 obtain⟨v1,vs1,d1,ds1,p1,q1,rfl,rfl,rfl,h1,r1⟩:=trodAll_cons r0
 obtain⟨rfl,rfl,rfl⟩:=trodAll_nil r1
 obtain rfl:args = #[v0,v1]:=by cases args;simp_all
 obtain⟨rfl,rfl⟩:=trodVars_none hV
 have k0:=h0
 have lt0:∀ x ∈ p0,x.block<W.heap.size:=by obtain⟨m,hm⟩:=k0;exact DataW.trod_lt m _ _ _ hm
 obtain⟨a0,n0,cap0,l0,rfl,w0,m0⟩:=code_open (hval 0 50 v0 rfl rfl) h0
 have k1:=h1
 have lt1:∀ x ∈ p1,x.block<W.heap.size:=by obtain⟨m,hm⟩:=k1;exact DataW.trod_lt m _ _ _ hm
 obtain⟨a1,n1,cap1,l1,rfl,w1,m1⟩:=code_open (hval 1 50 v1 rfl rfl) h1
 clear hA0 hval0;refine (lawKeeps W a0 n0 cap0 l0 a1 n1 cap1 l1 w0 w1 m0 m1).mono fun e W' ⟨he,bel⟩=>?_
 subst he;exact⟨_,rfl,_,_,_,[],_,[],hW',trodAll_mk1 (shut_bool Tryz.underlying4 _),(trodAll_cons_mk (Below.trod fnCoreKeeps_laidOut (by kernel_rfl) (of_decide_eq_true (by kernel_rfl)) k0 bel lt0) (trodAll_cons_mk (Below.trod fnCoreKeeps_laidOut (by kernel_rfl) (of_decide_eq_true (by kernel_rfl)) k1 bel lt1) trodAll_mk0)),rfl,bel.frame _,fun h=>by cases h⟩
theorem fnCoreKeeps_proved:Rows.FnCoreKeepsSaid:=
 OpenClaim.holds_of_wide 7 Tryz.f7 rfl rfl rfl rfl rfl rfl rfl ⟨rfl,rfl,rfl,rfl,rfl⟩ rfl rfl rfl rfl rfl (by kernel_rfl) Tryz.func7 (by kernel_rfl)
  (of_decide_eq_true (by kernel_rfl)) (by unfold Func.isWrapper;first | (rw[if_pos (by decide +kernel)];kernel_rfl) | (rw[if_neg (by decide +kernel)];exact⟨rfl,rfl⟩))
  (fun os started H enc _=>fnCoreKeeps_lifted os started H enc)
end Go.Proofs.YtkfcfigbgmbaiaaGreat
