import Derived.Test.YtkfcfigbgmbaiaaGreatK00
import Derived.Deep.RegionHeld
namespace Go.Proofs.YtkfcfigbgmbaiaaGreat
open Go.Proofs.Tryz renaming prog→Tp
theorem tk {ops:Array Oper} {Q:Exit→Act→World→Prop} {md:Region.Mode} {S:World→Prop} {fuel:Nat} {listed:Array Bool} {a:Act} {w:World} (i:Nat) {oi:Oper} {v:Value} {a':Act}
  (h:wpAnyH Tp md ops Q S fuel (listed.setIfInBounds i true) a' w)
  (hS:S w:=by assumption)
  (hi:ops[i]?=some oi:=by rfl)
  (hc:(Region.noSelect ops && Region.free md ops listed i && (Region.ready md ops listed).contains i)=true:=by kernel_rfl)
  (hQ:∀ c a w,Q (.panic c) (a.put oi.dst v) w→Q (.panic c) a w:=by exact fun _ _ _ h=>h)
  (hw:Region.wanted oi (yielded ops a.tmps)=true:=by rfl)
  (hy:∀ w,S w→(execOp a.eval oi).run Tp w = .ok (.value v) w:=by (intro W hW;go_simp;try rfl))
  (hn:a.put oi.dst v=a':=by (simp only[aZ];try rfl)) :
  wpAnyH Tp md ops Q S (fuel+1) listed a w:=by
 simp only[Bool.and_eq_true] at hc
 subst hn;exact wT hi hc.1.1 hc.1.2 hc.2 hQ (Or.inl ⟨hw,hy⟩) hS h
theorem tn {ops:Array Oper} {Q:Exit→Act→World→Prop} {md:Region.Mode} {S:World→Prop} {fuel:Nat} {listed:Array Bool} {a:Act} {w:World} (i:Nat) {oi:Oper} {a':Act}
  (h:wpAnyH Tp md ops Q S fuel (listed.setIfInBounds i true) a' w)
  (hS:S w:=by assumption)
  (hi:ops[i]?=some oi:=by rfl)
  (hc:(Region.noSelect ops && Region.free md ops listed i && (Region.ready md ops listed).contains i)=true:=by kernel_rfl)
  (hQ:∀ c a w,Q (.panic c) (a.put oi.dst undef) w→Q (.panic c) a w:=by exact fun _ _ _ h=>h)
  (hw:Region.wanted oi (yielded ops a.tmps)=false:=by rfl)
  (hn:a.put oi.dst undef=a':=by (simp only[aZ];try rfl)) :
  wpAnyH Tp md ops Q S (fuel+1) listed a w:=by
 simp only[Bool.and_eq_true] at hc
 subst hn;exact wT hi hc.1.1 hc.1.2 hc.2 hQ (Or.inr ⟨hw,rfl⟩) hS h
theorem al {ops:Array Oper} {Q:Exit→Act→World→Prop} {md:Region.Mode} {S:World→Prop} {fuel:Nat} {listed:Array Bool} {a:Act} {w:World} (i:Nat) {o:Oper}
  (h:∀ K':Act→World→Prop,Shut (∀ a w,S w→(S w→wpAnyH Tp md ops Q S fuel (listed.setIfInBounds i true) a w)→K' a w)→if Region.wanted o (yielded ops a.tmps)=true then Oper.wp Tp o a w K' Q else K' (a.put o.dst undef) w)
  (hr:Region.ready md ops listed=[i]:=by kernel_rfl) (ho:ops[i]?=some o:=by rfl):wpAnyH Tp md ops Q S (fuel+1) listed a w:=
 wpAnyH_ready hr (by simp) (AllReadyH.cons ho h AllReadyH.nil)
end Go.Proofs.YtkfcfigbgmbaiaaGreat
