import Derived.Test.YtaamahohdnbpiaaGreatNQ
import Derived.Test.YtaamahohdnbpiaaGreatNO
namespace Go.Proofs.YtaamahohdnbpiaaGreat
open Go.RowKit
set_option linter.unusedVariables false
set_option maxHeartbeats 1000000 in
theorem open_lh (w:World) (H:Ho) (s:Sl) (h:isHo w H s) (hs:slSome s) (hok:okHo H) (hm:H.le 1048576) :
  Calls Tryz.prog 61 #[.agg (hoL H s).toArray] w fun o w'=>∃ (G:Lg) (hd:Nat→Hd),o = .returned (.pointer (some ⟨G.P,0,none⟩))∧lh w G H 0 0 hd G.n2 (tagsD Unit H.bx G.n2) w'∧G.n2=H.bx.length:=by
 obtain⟨c0,c1,c2,c3,fs,bx,ff,qu,lo,st⟩:=H
 obtain⟨a1,n1,k1,a2,n2,k2,a3,n3,k3,a4,n4,k4⟩:=s
 obtain⟨⟨g1,e1⟩,⟨g2,e2⟩⟩:=hs
 simp only[] at e1 e2
 subst e1 e2;have hcf:=of_decide_eq_true hok.cf
 have hnf:=hok.nf
 have hnq:=hok.nq
 have l1:=h.fs.len
 have l2:=h.bx.len
 have l3:=h.ff.len
 have l4:=h.qu.len
 have hf16:fs.length≤16:=by
  have:=hok.fs
  unfold okFs at this
  simp at this
  exact this.1
 have hm2:=hm.bd
 have hm3:=hm.fd
 have hm4:=hm.qd
 have hm1:=hm.fs
 simp only[] at hcf hnf hnq l1 l2 l3 l4 hm1 hm2 hm3 hm4
 have hn2:=hok.n2
 simp only[] at hn2
 obtain⟨r1,hr1⟩ : ∃ r1:Nat,c1=(r1:Int):=⟨c1.toNat,by omega⟩
 obtain⟨r3,hr3⟩ : ∃ r3:Nat,c3=(r3:Int):=⟨c3.toNat,by omega⟩
 subst hr1 hr3;subst l3 l4;refine (openHost_any Unit w c0 c2 r1 r3 fs bx ff qu lo st g1 n1 k1 g2 0 n2 k2 a3 ff.length k3 a4 qu.length k4 h.fs h.bx h.ff h.qu (by omega) (by omega) (by omega) (by omega) hok.bx hm2).mono ?_
 rintro o w' ⟨P,mb,gf,kf,gb,kb,hs',gr,gq,rfl,hl⟩;have hx:=hl.x.k w' rfl hl.b
 have hr:=hl.r.k w' rfl hl.b
 have hq:=hl.q.k w' rfl hl.b
 exact⟨⟨P,mb,r1,r3,gf,n1,kf,gb,n2,kb,gr,gq⟩,hs',rfl,⟨hl.p,hl.f.k w' rfl hl.b,hx.1,hr.1,hr.2,hq.1,hq.2,hl.m,hl.b,⟨hl.f.lt,hl.r.lt,hl.q.lt⟩,⟨⟨hl.f.n1,hl.x.n1,hl.r.n1,hl.q.n1,hl.n1⟩,⟨hl.f.n2,hl.x.n2,hl.r.n2,hl.q.n2⟩,hl.d,⟨hl.lo.1,hl.lo.2,hl.n2⟩⟩,⟨rfl,rfl,by show n1≤1000;omega,by show n2≤8;omega,hx.2,⟨by show 0<r1;omega,by show r1≤1000;omega,by show ff.length≤r1;omega⟩,⟨by show 0<r3;omega,by show r3≤1000;omega,by show qu.length≤r3;omega⟩,⟨hok.l0,hok.l1⟩,hm3,hm4⟩⟩,l2⟩
theorem tags_at (bx:List R8):∀ k:Nat,k≤bx.length→Maps.IsMap (tagsD Unit bx k)∧∀ t:Int,(∃ (j:Nat) (hj:j<bx.length),j<k∧(bx[j].x≠0∧bx[j].y=t)∧Maps.has (tagsD Unit bx k) (.int .i64 t)=true∧∀ z,(tagsD Unit bx k).atKey (.int .i64 t) z = .lit (.int .i64 (j:Int)))∨((∀ (j:Nat) (hj:j<bx.length),j<k→¬ (bx[j].x≠0∧bx[j].y=t))∧Maps.has (tagsD Unit bx k) (.int .i64 t)=false)
 | 0,_=>⟨⟨[],rfl⟩,fun t=>Or.inr ⟨fun j _ h=>absurd h (Nat.not_lt_zero _),rfl⟩⟩
 | k+1,hk=>by
  obtain⟨hm,ih⟩:=tags_at bx k (by omega)
  have hkl:k<bx.length:=by omega
  by_cases hx:bx[k].x=0
  ·rw[tagsD_skip hkl hx]
   refine⟨hm,fun t=>?_⟩
   rcases ih t with⟨j,hj,h1,h2⟩|⟨h1,h2⟩
   ·exact Or.inl ⟨j,hj,by omega,h2⟩
   ·refine Or.inr ⟨fun j hj hjk=>?_,h2⟩
    by_cases e:j=k
    ·subst e;exact fun h=>h.1 hx
    ·exact h1 j hj (by omega)
  ·rw[tagsD_put hkl hx]
   refine⟨hm.put _ _,fun t=>?_⟩
   by_cases ht:t=bx[k].y
   ·subst ht;exact Or.inl ⟨k,hkl,by omega,⟨hx,rfl⟩,Maps.has_put_same hm (show WideAt.IsKeyLit (.int .i64 bx[k].y) from trivial) _,fun z=>Maps.atKey_put_same hm (show WideAt.IsKeyLit (.int .i64 bx[k].y) from trivial) _ _⟩
   ·have hne:Lit.int .i64 t≠Lit.int .i64 bx[k].y:=by
     intro e;injection e with _ e
     exact ht e
    rcases ih t with⟨j,hj,h1,h2,h3,h4⟩|⟨h1,h2⟩
    ·exact Or.inl ⟨j,hj,by omega,h2,by rw[Maps.has_put_other hne];exact h3,fun z=>by rw[Maps.atKey_put_other hne];exact h4 z⟩
    ·refine Or.inr ⟨fun j hj hjk=>?_,by rw[Maps.has_put_other hne];exact h2⟩
     by_cases e:j=k
     ·subst e;exact fun h=>ht h.2.symm
     ·exact h1 j hj (by omega)
theorem tags_ix {bx:List R8} (hfar:∀ i j (hi:i<bx.length) (hj:j<bx.length),i<j→far bx[i] bx[j]) (t:Int):(tagIx bx t<bx.length∧Maps.has (tagsD Unit bx bx.length) (.int .i64 t)=true∧∀ z,(tagsD Unit bx bx.length).atKey (.int .i64 t) z = .lit (.int .i64 (tagIx bx t:Int)))∨(¬ tagIx bx t<bx.length∧Maps.has (tagsD Unit bx bx.length) (.int .i64 t)=false):=by
 rcases (tags_at bx bx.length (Nat.le_refl _)).2 t with⟨j,hj,_,h2,h3,h4⟩|⟨h1,h2⟩
 ·left
  have e:tagIx bx t=j:=by
   unfold tagIx
   rw[List.findIdx_eq hj]
   refine⟨by simp[tagBb,h2.1,h2.2],fun i hi=>?_⟩
   have:=hfar i j (by omega) hj hi
   unfold far at this
   simp only[tagBb,Bool.and_eq_false_iff,Bool.not_eq_false',beq_iff_eq,beq_eq_false_iff_ne]
   by_cases hx:bx[i].x=0
   ·exact Or.inl hx
   ·exact Or.inr fun e=>(this hx h2.1).1 (e.trans h2.2.symm)
  rw[e]
  exact⟨hj,h3,h4⟩
 ·right
  refine⟨?_,h2⟩
  have:tagIx bx t=bx.length:=List.findIdx_eq_length.2 fun b hb=>by
   obtain⟨j,hj,rfl⟩:=List.getElem_of_mem hb
   have:=h1 j hj hj
   simp only[tagBb,Bool.and_eq_false_iff,Bool.not_eq_false',beq_iff_eq,beq_eq_false_iff_ne]
   by_cases hx:bx[j].x=0
   ·exact Or.inl hx
   ·exact Or.inr fun e=>this ⟨hx,e⟩
  omega
end Go.Proofs.YtaamahohdnbpiaaGreat
