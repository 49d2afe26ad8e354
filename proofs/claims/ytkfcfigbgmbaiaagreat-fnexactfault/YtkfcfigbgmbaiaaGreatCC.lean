import Derived.Test.YtkfcfigbgmbaiaaGreatG09
import Derived.Test.YtkfcfigbgmbaiaaGreatCB
namespace Go.Proofs.YtkfcfigbgmbaiaaGreat
open Go.RowKit
set_option linter.unusedVariables false
structure okM (C:Co):Prop where
 p:0≤C.p∧C.p≤7
 te:0≤C.te∧C.te≤256
 re:0≤C.re∧C.re≤255
 of:C.p=7↔C.te=256
 ct:rLo C.p≤C.ct∧C.ct≤rHi C.p
 lv:0≤C.lv∧C.lv≤1
 l1:C.lv=1→C.p=2∧C.wk=true∧0<C.ct
 wk:C.wk=true→C.p=2∧C.ov=false
 ov:C.ov=true→C.p=2∨C.p=3∨C.p=4
 ow:C.ow=true→C.wk=true∧C.tx=true
 tx:C.tx=true→C.p≠7∧C.p≠0
 t6:C.p=6→C.tx=true
 ak:C.ak=true→C.p=7
 rn:0≤C.rn∧C.rn<128
 na:C.ak=false→C.rn=0∧(C.p=7→C.ct=0)
abbrev coI (p ct lv kw ko kq kt ka rn te re:Int) (H:Ho):Co:=⟨p,ct,lv,decide (kw=1),decide (ko=1),decide (kq=1),decide (kt=1),decide (ka=1),rn,te,re,H⟩
theorem coI_of (C:Co):∃ kw ko kq kt ka:Int,C=coI C.p C.ct C.lv kw ko kq kt ka C.rn C.te C.re C.ho:=by
 have e:∀ b:Bool,∃ k:Int,b=decide (k=1):=fun b=>by cases b;exact⟨0,rfl⟩;exact⟨1,rfl⟩
 obtain⟨p,ct,lv,wk,ov,ow,tx,ak,rn,te,re,H⟩:=C
 obtain⟨kw,rfl⟩:=e wk
 obtain⟨ko,rfl⟩:=e ov
 obtain⟨kq,rfl⟩:=e ow
 obtain⟨kt,rfl⟩:=e tx
 obtain⟨ka,rfl⟩:=e ak
 exact⟨kw,ko,kq,kt,ka,rfl⟩
theorem okM_ints (p ct lv kw ko kq kt ka rn te re:Int) (H:Ho):okM (coI p ct lv kw ko kq kt ka rn te re H)↔(0≤p∧p≤7)∧(0≤te∧te≤256)∧(0≤re∧re≤255)∧(p=7↔te=256)∧(rLo p≤ct∧ct≤rHi p)∧(0≤lv∧lv≤1)∧(lv=1→p=2∧kw=1∧0<ct)∧(kw=1→p=2∧¬ ko=1)∧(ko=1→p=2∨p=3∨p=4)∧(kq=1→kw=1∧kt=1)∧(kt=1→p≠7∧p≠0)∧(p=6→kt=1)∧(ka=1→p=7)∧(0≤rn∧rn<128)∧(¬ ka=1→rn=0∧(p=7→ct=0)):=by
 constructor
 ·rintro⟨h1,h2,h3,h4,h5,h6,h7,h8,h9,h10,h11,h12,h13,h14,h15⟩;simp only[decide_eq_true_eq,decide_eq_false_iff_not] at *
  exact⟨h1,h2,h3,h4,h5,h6,h7,h8,h9,h10,h11,h12,h13,h14,h15⟩
 ·rintro⟨h1,h2,h3,h4,h5,h6,h7,h8,h9,h10,h11,h12,h13,h14,h15⟩;exact⟨h1,h2,h3,h4,h5,h6,by simpa using h7,by simpa using h8,by simpa using h9,by simpa using h10,by simpa using h11,by simpa using h12,by simpa using h13,h14,by simpa using h15⟩
theorem okM_0 (ct lv kw ko kq kt ka rn te re:Int) (H:Ho):okM (coI 0 ct lv kw ko kq kt ka rn te re H)↔(0≤te∧te≤256)∧(0≤re∧re≤255)∧(¬ te=256)∧(0≤ct∧ct≤0)∧(lv=0)∧(¬ kw=1)∧(¬ ko=1)∧(¬ kq=1∨(kw=1∧kt=1))∧(¬ kt=1)∧(¬ ka=1)∧(0≤rn∧rn<128)∧(ka=1∨rn=0):=by
 refine Iff.trans (okM_ints 0 ct lv kw ko kq kt ka rn te re H) ⟨?_,?_⟩
 ·rintro⟨h1,h2,h3,h4,h5,h6,h7,h8,h9,h10,h11,h12,h13,h14,h15⟩;exact⟨h2,h3,fun e=>absurd (h4.2 e) (by decide),h5,by by_cases e:lv=1;exact absurd (h7 e).1 (by decide);omega,fun e=>absurd (h8 e).1 (by decide),fun e=>absurd (h9 e) (by decide),by by_cases e:kq=1;exact Or.inr (h10 e);exact Or.inl e,fun e=>(h11 e).2 rfl,fun e=>absurd (h13 e) (by decide),h14,by by_cases e:ka=1;exact Or.inl e;exact Or.inr (h15 e).1⟩
 ·rintro⟨gte,gre,gof,gct,glv,gkw,gko,gkq,gkt,gka,grn,gna⟩;exact⟨⟨by decide,by decide⟩,gte,gre,⟨fun e=>absurd e (by decide),fun e=>absurd e gof⟩,gct,⟨by omega,by omega⟩,fun e=>absurd e (by omega),fun e=>absurd e gkw,fun e=>absurd e gko,fun e=>gkq.resolve_left (fun h=>h e),fun e=>absurd e gkt,fun e=>absurd e (by decide),fun e=>absurd e gka,grn,fun e=>⟨gna.resolve_left e,fun x=>absurd x (by decide)⟩⟩
theorem okM_1 (ct lv kw ko kq kt ka rn te re:Int) (H:Ho):okM (coI 1 ct lv kw ko kq kt ka rn te re H)↔(0≤te∧te≤256)∧(0≤re∧re≤255)∧(¬ te=256)∧(0≤ct∧ct≤0)∧(lv=0)∧(¬ kw=1)∧(¬ ko=1)∧(¬ kq=1∨(kw=1∧kt=1))∧(¬ ka=1)∧(0≤rn∧rn<128)∧(ka=1∨rn=0):=by
 refine Iff.trans (okM_ints 1 ct lv kw ko kq kt ka rn te re H) ⟨?_,?_⟩
 ·rintro⟨h1,h2,h3,h4,h5,h6,h7,h8,h9,h10,h11,h12,h13,h14,h15⟩;exact⟨h2,h3,fun e=>absurd (h4.2 e) (by decide),h5,by by_cases e:lv=1;exact absurd (h7 e).1 (by decide);omega,fun e=>absurd (h8 e).1 (by decide),fun e=>absurd (h9 e) (by decide),by by_cases e:kq=1;exact Or.inr (h10 e);exact Or.inl e,fun e=>absurd (h13 e) (by decide),h14,by by_cases e:ka=1;exact Or.inl e;exact Or.inr (h15 e).1⟩
 ·rintro⟨gte,gre,gof,gct,glv,gkw,gko,gkq,gka,grn,gna⟩;exact⟨⟨by decide,by decide⟩,gte,gre,⟨fun e=>absurd e (by decide),fun e=>absurd e gof⟩,gct,⟨by omega,by omega⟩,fun e=>absurd e (by omega),fun e=>absurd e gkw,fun e=>absurd e gko,fun e=>gkq.resolve_left (fun h=>h e),fun _=>⟨by decide,by decide⟩,fun e=>absurd e (by decide),fun e=>absurd e gka,grn,fun e=>⟨gna.resolve_left e,fun x=>absurd x (by decide)⟩⟩
theorem okM_2 (ct lv kw ko kq kt ka rn te re:Int) (H:Ho):okM (coI 2 ct lv kw ko kq kt ka rn te re H)↔(0≤te∧te≤256)∧(0≤re∧re≤255)∧(¬ te=256)∧(0≤ct∧ct≤5)∧(0≤lv∧lv≤1)∧(lv=0∨(kw=1∧0<ct))∧(¬ kw=1∨¬ ko=1)∧(¬ kq=1∨(kw=1∧kt=1))∧(¬ ka=1)∧(0≤rn∧rn<128)∧(ka=1∨rn=0):=by
 refine Iff.trans (okM_ints 2 ct lv kw ko kq kt ka rn te re H) ⟨?_,?_⟩
 ·rintro⟨h1,h2,h3,h4,h5,h6,h7,h8,h9,h10,h11,h12,h13,h14,h15⟩;exact⟨h2,h3,fun e=>absurd (h4.2 e) (by decide),h5,h6,by by_cases e:lv=1;exact Or.inr (h7 e).2;exact Or.inl (by omega),by by_cases e:kw=1;exact Or.inr (h8 e).2;exact Or.inl e,by by_cases e:kq=1;exact Or.inr (h10 e);exact Or.inl e,fun e=>absurd (h13 e) (by decide),h14,by by_cases e:ka=1;exact Or.inl e;exact Or.inr (h15 e).1⟩
 ·rintro⟨gte,gre,gof,gct,glv,gl1,gkw,gkq,gka,grn,gna⟩;exact⟨⟨by decide,by decide⟩,gte,gre,⟨fun e=>absurd e (by decide),fun e=>absurd e gof⟩,gct,glv,fun e=>⟨rfl,gl1.resolve_left (by omega)⟩,fun e=>⟨rfl,gkw.resolve_left (fun h=>h e)⟩,fun _=>by decide,fun e=>gkq.resolve_left (fun h=>h e),fun _=>⟨by decide,by decide⟩,fun e=>absurd e (by decide),fun e=>absurd e gka,grn,fun e=>⟨gna.resolve_left e,fun x=>absurd x (by decide)⟩⟩
theorem okM_3 (ct lv kw ko kq kt ka rn te re:Int) (H:Ho):okM (coI 3 ct lv kw ko kq kt ka rn te re H)↔(0≤te∧te≤256)∧(0≤re∧re≤255)∧(¬ te=256)∧(0≤ct∧ct≤15)∧(lv=0)∧(¬ kw=1)∧(¬ kq=1∨(kw=1∧kt=1))∧(¬ ka=1)∧(0≤rn∧rn<128)∧(ka=1∨rn=0):=by
 refine Iff.trans (okM_ints 3 ct lv kw ko kq kt ka rn te re H) ⟨?_,?_⟩
 ·rintro⟨h1,h2,h3,h4,h5,h6,h7,h8,h9,h10,h11,h12,h13,h14,h15⟩;exact⟨h2,h3,fun e=>absurd (h4.2 e) (by decide),h5,by by_cases e:lv=1;exact absurd (h7 e).1 (by decide);omega,fun e=>absurd (h8 e).1 (by decide),by by_cases e:kq=1;exact Or.inr (h10 e);exact Or.inl e,fun e=>absurd (h13 e) (by decide),h14,by by_cases e:ka=1;exact Or.inl e;exact Or.inr (h15 e).1⟩
 ·rintro⟨gte,gre,gof,gct,glv,gkw,gkq,gka,grn,gna⟩;exact⟨⟨by decide,by decide⟩,gte,gre,⟨fun e=>absurd e (by decide),fun e=>absurd e gof⟩,gct,⟨by omega,by omega⟩,fun e=>absurd e (by omega),fun e=>absurd e gkw,fun _=>by decide,fun e=>gkq.resolve_left (fun h=>h e),fun _=>⟨by decide,by decide⟩,fun e=>absurd e (by decide),fun e=>absurd e gka,grn,fun e=>⟨gna.resolve_left e,fun x=>absurd x (by decide)⟩⟩
theorem okM_4 (ct lv kw ko kq kt ka rn te re:Int) (H:Ho):okM (coI 4 ct lv kw ko kq kt ka rn te re H)↔(0≤te∧te≤256)∧(0≤re∧re≤255)∧(¬ te=256)∧(1≤ct∧ct≤7)∧(lv=0)∧(¬ kw=1)∧(¬ kq=1∨(kw=1∧kt=1))∧(¬ ka=1)∧(0≤rn∧rn<128)∧(ka=1∨rn=0):=by
 refine Iff.trans (okM_ints 4 ct lv kw ko kq kt ka rn te re H) ⟨?_,?_⟩
 ·rintro⟨h1,h2,h3,h4,h5,h6,h7,h8,h9,h10,h11,h12,h13,h14,h15⟩;exact⟨h2,h3,fun e=>absurd (h4.2 e) (by decide),h5,by by_cases e:lv=1;exact absurd (h7 e).1 (by decide);omega,fun e=>absurd (h8 e).1 (by decide),by by_cases e:kq=1;exact Or.inr (h10 e);exact Or.inl e,fun e=>absurd (h13 e) (by decide),h14,by by_cases e:ka=1;exact Or.inl e;exact Or.inr (h15 e).1⟩
 ·rintro⟨gte,gre,gof,gct,glv,gkw,gkq,gka,grn,gna⟩;exact⟨⟨by decide,by decide⟩,gte,gre,⟨fun e=>absurd e (by decide),fun e=>absurd e gof⟩,gct,⟨by omega,by omega⟩,fun e=>absurd e (by omega),fun e=>absurd e gkw,fun _=>by decide,fun e=>gkq.resolve_left (fun h=>h e),fun _=>⟨by decide,by decide⟩,fun e=>absurd e (by decide),fun e=>absurd e gka,grn,fun e=>⟨gna.resolve_left e,fun x=>absurd x (by decide)⟩⟩
theorem okM_5 (ct lv kw ko kq kt ka rn te re:Int) (H:Ho):okM (coI 5 ct lv kw ko kq kt ka rn te re H)↔(0≤te∧te≤256)∧(0≤re∧re≤255)∧(¬ te=256)∧(0≤ct∧ct≤2)∧(lv=0)∧(¬ kw=1)∧(¬ ko=1)∧(¬ kq=1∨(kw=1∧kt=1))∧(¬ ka=1)∧(0≤rn∧rn<128)∧(ka=1∨rn=0):=by
 refine Iff.trans (okM_ints 5 ct lv kw ko kq kt ka rn te re H) ⟨?_,?_⟩
 ·rintro⟨h1,h2,h3,h4,h5,h6,h7,h8,h9,h10,h11,h12,h13,h14,h15⟩;exact⟨h2,h3,fun e=>absurd (h4.2 e) (by decide),h5,by by_cases e:lv=1;exact absurd (h7 e).1 (by decide);omega,fun e=>absurd (h8 e).1 (by decide),fun e=>absurd (h9 e) (by decide),by by_cases e:kq=1;exact Or.inr (h10 e);exact Or.inl e,fun e=>absurd (h13 e) (by decide),h14,by by_cases e:ka=1;exact Or.inl e;exact Or.inr (h15 e).1⟩
 ·rintro⟨gte,gre,gof,gct,glv,gkw,gko,gkq,gka,grn,gna⟩;exact⟨⟨by decide,by decide⟩,gte,gre,⟨fun e=>absurd e (by decide),fun e=>absurd e gof⟩,gct,⟨by omega,by omega⟩,fun e=>absurd e (by omega),fun e=>absurd e gkw,fun e=>absurd e gko,fun e=>gkq.resolve_left (fun h=>h e),fun _=>⟨by decide,by decide⟩,fun e=>absurd e (by decide),fun e=>absurd e gka,grn,fun e=>⟨gna.resolve_left e,fun x=>absurd x (by decide)⟩⟩
theorem okM_6 (ct lv kw ko kq kt ka rn te re:Int) (H:Ho):okM (coI 6 ct lv kw ko kq kt ka rn te re H)↔(0≤te∧te≤256)∧(0≤re∧re≤255)∧(¬ te=256)∧(0≤ct∧ct≤7)∧(lv=0)∧(¬ kw=1)∧(¬ ko=1)∧(¬ kq=1∨(kw=1∧kt=1))∧(kt=1)∧(¬ ka=1)∧(0≤rn∧rn<128)∧(ka=1∨rn=0):=by
 refine Iff.trans (okM_ints 6 ct lv kw ko kq kt ka rn te re H) ⟨?_,?_⟩
 ·rintro⟨h1,h2,h3,h4,h5,h6,h7,h8,h9,h10,h11,h12,h13,h14,h15⟩;exact⟨h2,h3,fun e=>absurd (h4.2 e) (by decide),h5,by by_cases e:lv=1;exact absurd (h7 e).1 (by decide);omega,fun e=>absurd (h8 e).1 (by decide),fun e=>absurd (h9 e) (by decide),by by_cases e:kq=1;exact Or.inr (h10 e);exact Or.inl e,h12 rfl,fun e=>absurd (h13 e) (by decide),h14,by by_cases e:ka=1;exact Or.inl e;exact Or.inr (h15 e).1⟩
 ·rintro⟨gte,gre,gof,gct,glv,gkw,gko,gkq,gt6,gka,grn,gna⟩;exact⟨⟨by decide,by decide⟩,gte,gre,⟨fun e=>absurd e (by decide),fun e=>absurd e gof⟩,gct,⟨by omega,by omega⟩,fun e=>absurd e (by omega),fun e=>absurd e gkw,fun e=>absurd e gko,fun e=>gkq.resolve_left (fun h=>h e),fun _=>⟨by decide,by decide⟩,fun _=>gt6,fun e=>absurd e gka,grn,fun e=>⟨gna.resolve_left e,fun x=>absurd x (by decide)⟩⟩
theorem okM_7 (ct lv kw ko kq kt ka rn te re:Int) (H:Ho):okM (coI 7 ct lv kw ko kq kt ka rn te re H)↔(0≤te∧te≤256)∧(0≤re∧re≤255)∧(te=256)∧(0≤ct∧ct≤10)∧(lv=0)∧(¬ kw=1)∧(¬ ko=1)∧(¬ kq=1∨(kw=1∧kt=1))∧(¬ kt=1)∧(0≤rn∧rn<128)∧(ka=1∨rn=0)∧(ka=1∨ct=0):=by
 refine Iff.trans (okM_ints 7 ct lv kw ko kq kt ka rn te re H) ⟨?_,?_⟩
 ·rintro⟨h1,h2,h3,h4,h5,h6,h7,h8,h9,h10,h11,h12,h13,h14,h15⟩;exact⟨h2,h3,h4.1 rfl,h5,by by_cases e:lv=1;exact absurd (h7 e).1 (by decide);omega,fun e=>absurd (h8 e).1 (by decide),fun e=>absurd (h9 e) (by decide),by by_cases e:kq=1;exact Or.inr (h10 e);exact Or.inl e,fun e=>(h11 e).1 rfl,h14,by by_cases e:ka=1;exact Or.inl e;exact Or.inr (h15 e).1,by by_cases e:ka=1;exact Or.inl e;exact Or.inr ((h15 e).2 rfl)⟩
 ·rintro⟨gte,gre,gof,gct,glv,gkw,gko,gkq,gkt,grn,gna,gnc⟩;exact⟨⟨by decide,by decide⟩,gte,gre,⟨fun _=>gof,fun _=>rfl⟩,gct,⟨by omega,by omega⟩,fun e=>absurd e (by omega),fun e=>absurd e gkw,fun e=>absurd e gko,fun e=>gkq.resolve_left (fun h=>h e),fun e=>absurd e gkt,fun e=>absurd e (by decide),fun _=>rfl,grn,fun e=>⟨gna.resolve_left e,fun _=>gnc.resolve_left e⟩⟩
end Go.Proofs.YtkfcfigbgmbaiaaGreat
