import Derived.Test.YtkfcfigbgmbaiaaGreatK39
namespace Go.Proofs.YtkfcfigbgmbaiaaGreat
set_option maxRecDepth 40000
open Go.RowKit
set_option linter.unusedVariables false
set_option maxHeartbeats 16000000
open Go.Value renaming int→I,slice→sL,bool→bO,pointer→pT,agg→aG
open Go.IntKind renaming i64→J
open Go.Ending renaming returned→rT
open Go.Proofs.Tryz renaming prog→Tp
def clN:Nat→Ho→Ho
 | 0,H=>H
 | k+1,H=>if h:k<(clN k H).bx.length then (if 1<(clN k H).bx[k].x then stHo (clN k H) k 1 else clN k H) else clN k H
theorem stHo_n (H:Ho) (k:Nat) (v:Int):(stHo H k v).bx.length=H.bx.length:=by
 unfold stHo
 split
 ·simp
 ·rfl
theorem clN_n (k:Nat) (H:Ho):(clN k H).bx.length=H.bx.length:=by
 induction k with
 | zero=>rfl
 | succ k ih=>
  unfold clN
  split
  ·split
   ·rw[stHo_n,ih]
   ·exact ih
  ·exact ih
theorem bdH.cl {H:Ho} (h:bdH H) (k:Nat):bdH (clN k H):=by
 induction k with
 | zero=>exact h
 | succ k ih=>
  unfold clN
  split
  ·split
   ·exact ih.sta _ _
   ·exact ih
  ·exact ih
theorem coL_st (C:Co) (H:Ho) (s:Sl) (k:Nat) (v:Int):coL { C with ho:=stHo H k v } s=coL { C with ho:=H } s:=by
 unfold stHo
 split <;> rfl
def coreO (w0 w:World) (b:Nat) (a:Option Addr) (n cap:Nat) (l:List Nat) (C:Co) (τ:Sg) (o:Ending) (w':World):Prop:=∃ s κ,o = rT (aG (coL C s).toArray)∧hG κ C.ho s w'∧(∀ x,x<w.heap.size→κ x=0)∧srcF w0 b a n cap l τ w'∧onS b w w'
def fR (l:List Nat) (C:Co) (σ:Sg) (H2:Ho) (s2:Sg):Prop:=∃ r:Int,bestR C.ho.bx r∧((C.tx=true∧r<0∧∃ F:R5,smE l σ F s2∧F.l.length≤8∧H2=subHo (freeHo C.ho 0) 77 F)∨(¬ (C.tx=true∧r<0)∧H2=C.ho∧s2=σ))
def giR (l:List Nat) (ph:Nat) (C:Co) (σ:Sg) (C':Co) (τ:Sg):Prop:=
 (ph=0∧C' = { C with tx:=false }∧τ=σ) ∨
 (ph=1∧∃ H2 s2,fR l C σ H2 s2∧∃ r2:Int,bestR H2.bx r2∧((C.tx=true∧(∃ i:Nat,i<H2.bx.length∧r2=(i:Int)∧∃ t:Nat,t<2∧dr 60 [I J 2] l s2 (I J (t:Int)) τ∧C' = { C with ho:=stHo H2 i (2+(t:Int)) }))∨(¬ (C.tx=true∧0≤r2)∧C' = { C with ho:=H2,tx:=false }∧τ=s2))) ∨
 (ph=2∧∃ (v:Nat) (s2:Sg),dr 60 [I J 3] l σ (I J (v:Int)) s2∧((v=0∧C' = { C with ov:=true }∧τ=s2)∨(v=1∧∃ (ow:Bool) (s3:Sg),((C.tx=true∧∃ t:Nat,dr 60 [I J 2] l s2 (I J (t:Int)) s3∧ow=((t:Int) == 0))∨(C.tx=false∧ow=false∧s3=s2))∧((0<C.ct∧∃ t:Nat,dr 60 [I J 2] l s3 (I J (t:Int)) τ∧C' = { C with wk:=true,ow:=ow,lv:=(t:Int) })∨(¬ 0<C.ct∧C' = { C with wk:=true,ow:=ow }∧τ=s3)))∨(v=2∧C'=C∧τ=s2))) ∨
 ((ph=3∨ph=4)∧∃ v:Nat,dr 60 [I J 3] l σ (I J (v:Int)) τ∧C' = { C with ov:=((v:Int) == 0) }) ∨
 (ph=5∧C'=C∧τ=σ) ∨
 (ph=6∧C' = { C with tx:=true }∧τ=σ) ∨
 (ph=7∧∃ (v:Nat) (s2:Sg),dr 60 [I J 4] l σ (I J (v:Int)) s2∧((0<v∧∃ (u:Nat) (s3:Sg),dr 60 [I J 128] l s2 (I J (u:Int)) s3∧∃ t:Nat,dr 60 [I J 2] l s3 (I J (t:Int)) τ∧((t=0∧C' = { C with tx:=false,te:=256,ak:=true,rn:=127 })∨(t≠0∧C' = { C with tx:=false,te:=256,ak:=true,rn:=(u:Int) })))∨(v=0∧C' = { C with tx:=false,te:=256,ak:=false,ct:=0 }∧τ=s2)))
theorem bestR_e (bx:List R8):∃ r,bestR bx r:=by
 rcases Classical.em (∃ i,isBest bx i) with⟨i,h⟩|h
 ·exact⟨i,Or.inr ⟨i,rfl,h⟩⟩
 ·exact⟨-1,Or.inl ⟨rfl,fun i hi=>h ⟨i,hi⟩⟩⟩
theorem fR_bd {l:List Nat} {C:Co} {σ s2:Sg} {H2:Ho} (hb:bdH C.ho) (h:fR l C σ H2 s2):bdH H2:=by
 obtain⟨r,_,⟨_,_,F,_,hF,rfl⟩|⟨_,rfl,_⟩⟩:=h
 ·exact (hb.free 0).sub _ (by omega)
 ·exact hb
theorem fR_ex (l:List Nat) (C:Co) (σ:Sg) (hb:bdH C.ho) (hi:σ.1+300≤1000000000):∃ H2 s2,fR l C σ H2 s2∧bdH H2∧s2.1≤σ.1+30:=by
 obtain⟨r,hr⟩:=bestR_e C.ho.bx
 by_cases h:C.tx=true∧r<0
 ·obtain⟨⟨F,s3⟩,q3,hl,D3⟩:=genSmall_f l σ (by omega)
  dsimp only at q3 hl
  exact⟨_,s3,⟨r,hr,Or.inl ⟨h.1,h.2,F,D3,hl,rfl⟩⟩,(hb.free 0).sub _ (by omega),by omega⟩
 ·exact⟨_,_,⟨r,hr,Or.inr ⟨h,rfl,rfl⟩⟩,hb,by omega⟩
theorem giR_ex (l:List Nat) (ph:Nat) (hp:ph≤7) (C:Co) (σ:Sg) (hb:bdH C.ho) (hi:σ.1+400≤1000000000):∃ C' τ,giR l ph C σ C' τ∧bdH C'.ho∧τ.1≤σ.1+50:=by
 obtain rfl|rfl|rfl|h34|rfl|rfl|rfl:ph=0∨ph=1∨ph=2∨(ph=3∨ph=4)∨ph=5∨ph=6∨ph=7:=by omega
 ·exact⟨_,_,Or.inl ⟨rfl,rfl,rfl⟩,hb,by omega⟩
 ·obtain⟨H2,s2,h2,b2,q2⟩:=fR_ex l C σ hb (by omega)
  obtain⟨r2,hr2⟩:=bestR_e H2.bx
  by_cases h:C.tx=true∧0≤r2
  ·obtain⟨t,s3,p3,q3,D3⟩:=nE l s2 2 2 rfl (by decide) (by decide) (by omega)
   obtain⟨i,rfl,hi⟩ : ∃ i:Nat,r2=(i:Int)∧i<H2.bx.length:=by
    rcases hr2 with⟨e,_⟩|⟨i,e,hi,_⟩
    ·omega
    ·exact⟨i,e,hi⟩
   exact⟨_,s3,Or.inr (Or.inl ⟨rfl,H2,s2,h2,(i:Int),hr2,Or.inl ⟨h.1,i,hi,rfl,t,p3,D3,rfl⟩⟩),b2.sta _ _,by omega⟩
  ·exact⟨_,_,Or.inr (Or.inl ⟨rfl,H2,s2,h2,r2,hr2,Or.inr ⟨h,rfl,rfl⟩⟩),b2,by omega⟩
 ·obtain⟨v,s2,p2,q2,D2⟩:=nE l σ 3 3 rfl (by decide) (by decide) (by omega)
  obtain rfl|rfl|rfl:v=0∨v=1∨v=2:=by omega
  ·exact⟨_,_,Or.inr (Or.inr (Or.inl ⟨rfl,0,s2,D2,Or.inl ⟨rfl,rfl,rfl⟩⟩)),hb,by omega⟩
  ·obtain⟨ow,s3,h3,q3⟩ : ∃ (ow:Bool) (s3:Sg),((C.tx=true∧∃ t:Nat,dr 60 [I J 2] l s2 (I J (t:Int)) s3∧ow=((t:Int) == 0))∨(C.tx=false∧ow=false∧s3=s2))∧s3.1≤s2.1+1:=by
    cases htx:C.tx
    ·exact⟨false,s2,Or.inr ⟨rfl,rfl,rfl⟩,by omega⟩
    ·obtain⟨t,s3,p3,q3,D3⟩:=nE l s2 2 2 rfl (by decide) (by decide) (by omega)
     exact⟨_,s3,Or.inl ⟨rfl,t,D3,rfl⟩,by omega⟩
   by_cases hc:0<C.ct
   ·obtain⟨t,s4,p4,q4,D4⟩:=nE l s3 2 2 rfl (by decide) (by decide) (by omega)
    exact⟨_,_,Or.inr (Or.inr (Or.inl ⟨rfl,1,s2,D2,Or.inr (Or.inl ⟨rfl,ow,s3,h3,Or.inl ⟨hc,t,D4,rfl⟩⟩)⟩)),hb,by omega⟩
   ·exact⟨_,_,Or.inr (Or.inr (Or.inl ⟨rfl,1,s2,D2,Or.inr (Or.inl ⟨rfl,ow,s3,h3,Or.inr ⟨hc,rfl,rfl⟩⟩)⟩)),hb,by omega⟩
  ·exact⟨_,_,Or.inr (Or.inr (Or.inl ⟨rfl,2,s2,D2,Or.inr (Or.inr ⟨rfl,rfl,rfl⟩)⟩)),hb,by omega⟩
 ·obtain⟨v,s2,p2,q2,D2⟩:=nE l σ 3 3 rfl (by decide) (by decide) (by omega)
  exact⟨_,_,Or.inr (Or.inr (Or.inr (Or.inl ⟨h34,v,D2,rfl⟩))),hb,by omega⟩
 ·exact⟨_,_,Or.inr (Or.inr (Or.inr (Or.inr (Or.inl ⟨rfl,rfl,rfl⟩)))),hb,by omega⟩
 ·exact⟨_,_,Or.inr (Or.inr (Or.inr (Or.inr (Or.inr (Or.inl ⟨rfl,rfl,rfl⟩))))),hb,by omega⟩
 ·obtain⟨v,s2,p2,q2,D2⟩:=nE l σ 4 4 rfl (by decide) (by decide) (by omega)
  by_cases hv:v=0
  ·exact⟨_,_,Or.inr (Or.inr (Or.inr (Or.inr (Or.inr (Or.inr ⟨rfl,v,s2,D2,Or.inr ⟨hv,rfl,rfl⟩⟩))))),hb,by omega⟩
  ·obtain⟨u,s3,p3,q3,D3⟩:=nE l s2 128 128 rfl (by decide) (by decide) (by omega)
   obtain⟨t,s4,p4,q4,D4⟩:=nE l s3 2 2 rfl (by decide) (by decide) (by omega)
   by_cases ht:t=0
   ·exact⟨_,_,Or.inr (Or.inr (Or.inr (Or.inr (Or.inr (Or.inr ⟨rfl,v,s2,D2,Or.inl ⟨by omega,u,s3,D3,t,D4,Or.inl ⟨ht,rfl⟩⟩⟩))))),hb,by omega⟩
   ·exact⟨_,_,Or.inr (Or.inr (Or.inr (Or.inr (Or.inr (Or.inr ⟨rfl,v,s2,D2,Or.inl ⟨by omega,u,s3,D3,t,D4,Or.inr ⟨ht,rfl⟩⟩⟩))))),hb,by omega⟩
theorem room_nat (ph:Nat) (h:ph≤7):∃ lo hi:Nat,rLo (ph:Int)=(lo:Int)∧rHi (ph:Int)=(hi:Int)∧lo≤hi∧hi≤15:=by
 obtain rfl|rfl|rfl|rfl|rfl|rfl|rfl|rfl:ph=0∨ph=1∨ph=2∨ph=3∨ph=4∨ph=5∨ph=6∨ph=7:=by omega
 all_goals first | exact⟨0,0,rfl,rfl,by decide,by decide⟩ | exact⟨0,5,rfl,rfl,by decide,by decide⟩ | exact⟨0,15,rfl,rfl,by decide,by decide⟩ | exact⟨1,7,rfl,rfl,by decide,by decide⟩ | exact⟨0,2,rfl,rfl,by decide,by decide⟩ | exact⟨0,7,rfl,rfl,by decide,by decide⟩ | exact⟨0,10,rfl,rfl,by decide,by decide⟩
section
variable {w0 w W W' : World} {b : Nat} {a : Option Addr} {n cap : Nat} {l : List Nat} {σ σ' τ : Sg} {P : Nat} {Z L : List Value} {κ κ' : Nat → Nat} {H : Ho} {s s2 : Sl} {C C2 : Co}
theorem hG.on (h:hG κ H s W) (q:onS b W W') (hk:κ b=0):hG κ H s W':=h.st (fun x hx=>q.k x (by rintro rfl;exact hx hk) (h.sm x hx)) q.s
theorem hV.coh (h:hV 41 Z w0 w b a n cap l σ P κ H s (coL C s2) W) (H2:Ho) (s3:Sl):hV 41 Z w0 w b a n cap l σ P κ H s (coL { C with ho:=H2 } s3) (W.setCells P 11 (hoL H2 s3)):=h.cells 11 _ (h.p.host H2 s3)
variable {ops : Array Oper} {rest : List Oper} {op : Oper} {ac : Act} {Q : Exit → Act → World → Prop} {K : Act → World → Prop} {x y : Operand}
theorem hV.ldH (h:hV 41 Z w0 w b a n cap l σ P κ H s (coL C s2) W) (hK:wpList Tp ops Q rest (ac.put op.dst (aG (hoL C.ho s2).toArray)) W) (hgd:op.guard=none:=by rfl) (ho:op.op = .load 39 x:=by rfl) (hx:ac.eval x = pT (some ⟨P,11,none⟩):=by rfl):wpList Tp ops Q (op :: rest) ac W:=
 wpList_load_mid (P:=Tp) hgd 39 x ho P 11 hx (hoL C.ho s2) _ h.p.hostAt Tryz.underlying39 rfl (sz41L _ _) hK
theorem hV.ldHW {ac2:Act} (h:hV 41 Z w0 w b a n cap l σ P κ H s (coL C s2) W) (hK:K ac2 W) (ho:op.op = .load 39 x:=by rfl) (hx:ac.eval x = pT (some ⟨P,11,none⟩):=by rfl) (hn:ac.put op.dst (aG (hoL C.ho s2).toArray)=ac2:=by (simp only[aZ];try rfl)):op.wp Tp ac W K Q:=
 wp_load_mid (P:=Tp) 39 x ho P 11 hx (hoL C.ho s2) _ h.p.hostAt Tryz.underlying39 rfl (sz41L _ _) (hn ▸ hK)
theorem hV.svHW (h:hV 41 Z w0 w b a n cap l σ P κ H s (coL C s2) W) {H2:Ho} {s3:Sl} (hK:∀ W8,Hid (hV 41 Z w0 w b a n cap l σ P κ H s (coL { C with ho:=H2 } s3) W8)→K (ac.put op.dst undef) W8) (ho:op.op = .store 39 x y:=by rfl) (hx:ac.eval x = pT (some ⟨P,11,none⟩):=by rfl) (hy:ac.eval y = aG (hoL H2 s3).toArray:=by rfl):op.wp Tp ac W K Q:=
 wp_store_mid (P:=Tp) 39 x y ho P 11 (hoL H2 s3).toArray hx hy (h.p.there 11 10 (nR _)) (sz41A _ _) (hoL_one _ _) (hK _ (h.coh H2 s3))
theorem hV.stX {i:Nat} {H2:Ho} (h:hV 41 Z w0 w b a n cap l σ P κ H2 s (coL { C with ho:=H2 } s) W) {gb:Nat} (e2:s.a2=some ⟨gb,0,none⟩) (hi:i<H2.bx.length) (v:Int):hV 41 Z w0 w b a n cap l σ P κ (stHo H2 i v) s (coL { C with ho:=stHo H2 i v } s) (W.setCell ⟨gb,i*8,none⟩ (I J v))∧blk (W.setCell ⟨gb,i*8,none⟩ (I J v)) P (coL { C with ho:=H2 } s) 41∧(∃ x,W.cell? ⟨gb,i*8,none⟩=some x)∧W.frozen? ⟨gb,i*8,none⟩=false:=by
 obtain⟨gb',hs,e,k2,h1,_⟩:=h.g.x
 obtain rfl:gb'=gb:=by rw[e2] at e;cases e;rfl
 have q:=h.mv (h.g.setX e2 hi v)
 have e3:=coL_st C H2 s i v
 have r:=h1.row (i*8) (by have:=h1.len;omega)
 exact⟨by rw[e3];exact q,q.p,r.1,r.2⟩
theorem hV.bxL {T:Nat} (h:hV T Z w0 w b a n cap l σ P κ H s L W) {gb k:Nat} (e2:s.a2=some ⟨gb,0,none⟩) (hk:k<H.bx.length) (hK:∀ W8,Hid (hV T Z w0 w b a n cap l σ P κ (freeHo H k) s L W8)→wpList Tp ops Q rest (ac.put op.dst undef) W8) (hgd:op.guard=none:=by rfl) (ho:op.op = .store 166 x y:=by rfl) (hx:ac.eval x = pT (some ⟨gb,k*8,none⟩):=by rfl) (hy:ac.eval y = aG (x8 (z8,(none,0,0))).toArray:=by rfl):wpList Tp ops Q (op :: rest) ac W:=by
 obtain⟨gb',hs,e,_,h1,_⟩:=h.g.x
 obtain rfl:gb'=gb:=by rw[e2] at e;cases e;rfl
 exact wpList_store_mid (P:=Tp) hgd 166 x y ho gb' (k*8) (x8 (z8,(none,0,0))).toArray hx hy (h1.there k hk) sz95 (one8 _ _ _ _ _ _ _ _ _ _) (hK _ (h.mv (h.g.putX e2 hk z8 (none,0,0) (none8 _) (Or.inl ⟨rfl,rfl⟩))))
theorem hV.ldC (h:hV 41 Z w0 w b a n cap l σ P κ H s (coL C s2) W) (hK:wpList Tp ops Q rest (ac.put op.dst (aG (coL C s2).toArray)) W) (hgd:op.guard=none:=by rfl) (ho:op.op = .load 41 x:=by rfl) (hx:ac.eval x = pT (some ⟨P,0,none⟩):=by rfl):wpList Tp ops Q (op :: rest) ac W:=
 wpList_load_mid (P:=Tp) hgd 41 x ho P 0 hx (coL C s2) _ h.p.load Tryz.underlying41 rfl (szC41L _ _) hK
theorem hV.svC (h:hV 41 Z w0 w b a n cap l σ P κ H s L W) (hl:L.length=21) (hK:∀ W8,Hid (hV 41 Z w0 w b a n cap l σ P κ H s (coL C2 s2) W8)→wpList Tp ops Q rest (ac.put op.dst undef) W8) (hgd:op.guard=none:=by rfl) (ho:op.op = .store 41 x y:=by rfl) (hx:ac.eval x = pT (some ⟨P,0,none⟩):=by rfl) (hy:ac.eval y = aG (coL C2 s2).toArray:=by rfl):wpList Tp ops Q (op :: rest) ac W:=
 wpList_store_mid (P:=Tp) hgd 41 x y ho P 0 (coL C2 s2).toArray hx hy (h.p.there 0 21 (by omega)) (szC41A _ _) (cO _ _) (hK _ (h.put (coL C2 s2) hl))
theorem hV.rtC (h:hV 41 Z w0 w b a n cap l σ P κ H s L W) (hZ:Z.length=21) (hK:∀ W8,blk W8 w.heap.size (coL C2 s2) 41→Hid (hG κ H s W8∧srcF w0 b a n cap l σ W8∧onS b w W8)→wpList Tp ops Q rest (ac.put op.dst undef) W8) (hgd:op.guard=none:=by rfl) (ho:op.op = .store 41 x y:=by rfl) (hx:ac.eval x = pT (some ⟨w.heap.size,0,none⟩):=by rfl) (hy:ac.eval y = aG (coL C2 s2).toArray:=by rfl):wpList Tp ops Q (op :: rest) ac W:=by
 have he:∀ x,x≠w.heap.size→(W.setCells w.heap.size 0 (coL C2 s2)).heap[x]?=W.heap[x]?:=fun x hx=>sO _ x hx _ _ _
 have hz:(W.setCells w.heap.size 0 (coL C2 s2)).heap.size=W.heap.size:=sZ ..
 have hx':=h.x
 have hb:=h.s.hb
 have h8:=sW (B:=0) (nZ w.heap.size) 0 (coL C2 s2) (bW 0 W)
 exact wpList_store_mid (P:=Tp) hgd 41 x y ho w.heap.size 0 (coL C2 s2).toArray hx hy (h.z.there 0 21 (by omega)) (szC41A _ _) (cO _ _) (hK _ (by simpa using blk.put [] Z [] (coL C2 s2) (by simpa using h.z) hZ) ⟨h.g.cells (h.k _ (nR _)) _ _,h.s.other (q:=w.heap.size) (by omega) (by omega) (fun x h1 _=>he x h1) (Nat.le_of_eq hz.symm) ⟨h8.os,h8.tape,h8.output⟩,h.o.other (q:=w.heap.size) (nR _) (fun x h1 _=>he x h1) (Nat.le_of_eq hz.symm) ⟨h8.os,h8.tape,h8.output⟩⟩)
end
theorem lv41 {W:World} {p:Nat} {C:Co} {s:Sl} (h:blk W p (coL C s) 41):(loadVar 41 ⟨p,0,none⟩).run Tp W = .ok (aG (coL C s).toArray) W:=rq41 h
theorem genIn_f (l:List Nat) (σ:Sg) (ph:Nat) (hp:ph≤7) (hl:l.length≤1048576) (hi:σ.1+20000≤1000000000):∃ (C:Co) (τ:Sg),bdH C.ho∧τ.1≤σ.1+10000∧Hid (∀ (w0 w:World) (b:Nat) (a:Option Addr) (n cap:Nat),srcF w0 b a n cap l σ w→Calls Tp 120 #[pT (some ⟨b,0,none⟩),I J (ph:Int)] w (coreO w0 w b a n cap l C τ)):=by
 obtain⟨H,g1,hbd,q1,DH⟩:=genHost_f l σ hl (by omega)
 obtain⟨te,g2,p2,q2,D2⟩:=genRec_f l g1 (by omega)
 obtain⟨re,g3,p3,q3,D3⟩:=genRec_f l g2 (by omega)
 obtain⟨lo,hi',eLo,eHi,hlh,hh⟩:=room_nat ph hp
 obtain⟨v4,g4,p4,q4,D4⟩:=nE l g3 (hi'-lo+1) ((hi':Int)-(lo:Int)+1) (by omega) (by omega) (by omega) (by omega)
 obtain⟨v5,g5,p5,q5,D5⟩:=nE l g4 3 3 rfl (by decide) (by decide) (by omega)
 obtain⟨v6,g6,p6,q6,D6⟩:=nE l g5 2 2 rfl (by decide) (by decide) (by omega)
 obtain⟨ct,hct⟩ : ∃ c:Nat,c=if v5=0 then hi' else lo+v4:=⟨_,rfl⟩
 obtain⟨C1,hC1⟩ : ∃ C:Co,C=⟨(ph:Int),(ct:Int),0,false,false,false,((v6:Int) == 0),false,0,(te:Int),(re:Int),clN H.bx.length H⟩:=⟨_,rfl⟩
 obtain⟨C',τ,hR,hb',q7⟩:=giR_ex l ph hp C1 g6 (by rw[hC1];exact hbd.cl _) (by omega)
 refine⟨C',τ,hb',by omega,fun w0 w b a n cap h=>?_⟩
 have HR:Hid (srcF w0 b a n cap l σ w):=h
 have HCT:Hid (ct=if v5=0 then hi' else lo+v4):=hct
 have HC1:Hid (C1=⟨(ph:Int),(ct:Int),0,false,false,false,((v6:Int) == 0),false,0,(te:Int),(re:Int),clN H.bx.length H⟩):=hC1
 have HB:=hidG hbd
 have HX:Hid (giR l ph C1 g6 C' τ∧bdH C1.ho):=⟨hR,by rw[hC1];exact hbd.cl _⟩
 have HRM:Hid (∀ W,Calls Tp 75 #[I J (ph:Int)] W fun o w'=>o = rT (.tuple #[I J (lo:Int),I J (hi':Int)])∧W=w'):=fun W=>by have:=l4room_any W (ph:Int);rw[eLo,eHi] at this;exact this
 have hw1:IntKind.i64.wrap ((hi':Int)-(lo:Int))=(hi':Int)-(lo:Int):=by rw[IntKind.wrap_i64];omega
 have hw2:IntKind.i64.wrap ((hi':Int)-(lo:Int)+1)=(hi':Int)-(lo:Int)+1:=by rw[IntKind.wrap_i64];omega
 have hw3:IntKind.i64.wrap ((lo:Int)+(v4:Int))=(lo:Int)+(v4:Int):=by rw[IntKind.wrap_i64];omega
 clear h hct hC1 hbd hR hb' q1 q2 q3 q4 q5 q6 q7 p2 p3 p4 p5 p6 eLo eHi hp;go_enter Tryz.func120,Tryz.ntmps120
 go_wp2_with fail;refine (DH.out _ _ _ _ _ _ (HR.out.below ((bW _ _).alloc (nR _) _))).mono ?_
 rintro o w1 ⟨s,κ,rfl,hg1,hk1,h1,k1⟩;have HK:Hid (∀ x,x≤w.heap.size→κ x=0):=fun x hx=>hk1 x (by simp;omega)
 have HBL:Hid (b<w.heap.size):=HR.out.at_.lt
 have H1:Hid (hG κ H s w1∧srcF w0 b a n cap l g1 w1∧onS b (w.alloc (.cells Z21.toArray 41)) w1):=⟨hg1,h1,k1⟩
 clear hg1 hk1 h1 k1 DH;go_wp2_with fail;refine (D2.out _ _ _ _ _ _ H1.out.2.1).mono ?_
 rintro o w2 ⟨rfl,h2,k2⟩;have H2:Hid (hG κ H s w2∧srcF w0 b a n cap l g2 w2∧onS b (w.alloc (.cells Z21.toArray 41)) w2):=⟨H1.out.1.on k2 (HK.out _ (Nat.le_of_lt HBL.out)),h2,H1.out.2.2.trans k2⟩
 clear H1 h2 k2 D2;go_wp2_with fail;refine (D3.out _ _ _ _ _ _ H2.out.2.1).mono ?_
 rintro o w3 ⟨rfl,h3,k3⟩;have V0:Hid (hV 41 Z21 w0 w b a n cap l g3 w3.heap.size κ H s Z21 (w3.alloc (.cells Z21.toArray 41))):=hV.new HR.out h3 (H2.out.2.2.trans k3) (H2.out.1.on k3 (HK.out _ (Nat.le_of_lt HBL.out))) HK.out Z21
 clear H2 h3 k3 D3 HR;unfold hoL
 go_upto_region 2 with (refine hV.svC (C2:=⟨(ph:Int),0,0,false,false,false,false,false,0,(te:Int),(re:Int),H⟩) (s2:=s) V0.out rfl ?_;intro w4 V4)
 clear V0;generalize w3.heap.size=P at *;go_wp2_with fail;go_loopw [6] (fun i wr=>∃ k:Nat,k≤H.bx.length∧i = I J (k:Int)∧Hid (hV 41 Z21 w0 w b a n cap l g3 P κ (clN k H) s (coL ⟨(ph:Int),0,0,false,false,false,false,false,0,(te:Int),(re:Int),clN k H⟩ s) wr)) (fun i _=>H.bx.length-(intOf i).toNat)
 case atStart=>exact⟨0,nZ _,rfl,V4⟩
 case round=>
  clear V4;obtain⟨k,hk,rfl,V5⟩:=hrel
  obtain⟨gb,hs0,e2,kb,hx,_⟩:=V5.out.g.x
  have x16:wr.cell? ⟨P,16,none⟩=some (sL (some ⟨gb,0,none⟩) s.n2 s.k2):=by rw[← e2];exact V5.out.p.cell 16 _ rfl
  have hln:s.n2=H.bx.length:=by rw[V5.out.g.n2,clN_n]
  have hcp:=hx.cap
  have hk8:k≤8:=by have:=HB.out.b;omega
  by_cases hlt:k<s.n2
  ·have hkl:k<(clN k H).bx.length:=by rw[clN_n];omega
   have y0:wr.cell? ⟨gb,k*8,none⟩=some (I J (clN k H).bx[k].x):=hx.rng k hkl 0 _ rfl
   have f0:=(hx.row (k*8) (by omega)).2
   have G7:=hidG (V5.out.g.setX e2 hkl 1)
   have HLT:Hid (k<H.bx.length):=by show _<_;omega
   by_cases hx1:1<(clN k H).bx[k].x
   ·have HE:Hid (clN (k+1) H=stHo (clN k H) k 1):=by show _=_;rw[clN,dif_pos hkl,if_pos hx1]
    have d1:decide (1<(clN k H).bx[k].x)=true:=by simpa using hx1
    have V7:=hidG (V5.out.mv G7.out)
    have e7:=coL_st ⟨(ph:Int),0,0,false,false,false,false,false,0,(te:Int),(re:Int),clN k H⟩ (clN k H) s k 1
    have V7:Hid (hV 41 Z21 w0 w b a n cap l g3 P κ (stHo (clN k H) k 1) s (coL ⟨(ph:Int),0,0,false,false,false,false,false,0,(te:Int),(re:Int),stHo (clN k H) k 1⟩ s) (wr.setCell ⟨gb,k*8,none⟩ (I J 1))):=by have:=V7;rw[← e7] at this;exact this
    clear e7 hx G7 hx1 e2 kb hln hk V5;generalize (clN k H).bx[k].x=xx at *;go_wp2_with fail;go_roundw
    case rel=>exact⟨k+1,HLT.out,by go_num,by rw[HE.out];exact V7⟩
    case measure=>have:=HLT.out;simp[intOf];omega
   ·have HE:Hid (clN (k+1) H=clN k H):=by show _=_;rw[clN,dif_pos hkl,if_neg hx1]
    have d1:decide (1<(clN k H).bx[k].x)=false:=by simpa using hx1
    clear hx G7 hx1 e2 kb hln hk;generalize (clN k H).bx[k].x=xx at *;go_wp2_with fail;go_roundw
    case rel=>exact⟨k+1,HLT.out,by go_num,by rw[HE.out];exact V5⟩
    case measure=>have:=HLT.out;simp[intOf];omega
  ·obtain rfl:k=H.bx.length:=by omega
   have hns:¬ H.bx.length<s.n2:=hlt
   clear hx e2 kb hln hk hlt;go_wp2_with fail;refine (HRM.out _).mono ?_
   rintro o w5 ⟨rfl,hw⟩;have hw:=hw.symm
   subst hw;clear HRM x16 hcp hns;go_wp2_with fail;refine (hV.call D4 V5.out).mono ?_
   rintro o w6 ⟨rfl,V6⟩;clear V5 D4;have y1:=V6.out.p.cell 1 _ rfl
   have f1:=V6.out.p.free 1
   have V7:Hid (hV 41 Z21 w0 w b a n cap l g4 P κ (clN H.bx.length H) s (coL ⟨(ph:Int),((lo:Int)+(v4:Int)),0,false,false,false,false,false,0,(te:Int),(re:Int),clN H.bx.length H⟩ s) (w6.setCell ⟨P,1,none⟩ (I J ((lo:Int)+(v4:Int))))):=V6.out.set 1 _
   go_upto_region 9 with fail
   clear y1 f1 V6 hw1 hw2 hw3;generalize w6.setCell ⟨P,1,none⟩ (I J ((lo:Int)+(v4:Int)))=w7 at *;go_wp2_with fail;refine (hV.call D5 V7.out).mono ?_
   rintro o w8 ⟨rfl,V8⟩;clear V7 D5;go_upto_if 56 with fail
   go_cut [] (fun wx=>Hid (hV 41 Z21 w0 w b a n cap l g5 P κ (clN H.bx.length H) s (coL ⟨(ph:Int),(ct:Int),0,false,false,false,false,false,0,(te:Int),(re:Int),clN H.bx.length H⟩ s) wx))
   case first=>
    have hc:=HCT.out
    by_cases e:v5=0
    ·rw[if_pos e] at hc
     subst hc e;have y1:=V8.out.p.cell 1 _ rfl
     have f1:=V8.out.p.free 1
     have V9:Hid (hV 41 Z21 w0 w b a n cap l g5 P κ (clN H.bx.length H) s (coL ⟨(ph:Int),(ct:Int),0,false,false,false,false,false,0,(te:Int),(re:Int),clN H.bx.length H⟩ s) (w8.setCell ⟨P,1,none⟩ (I J (ct:Int)))):=V8.out.set 1 _
     go_wp2_with fail;go_meet
     case rel=>exact V9
    ·rw[if_neg e] at hc
     have e1:((v5:Int) == 0)=false:=by simp;omega
     have hcc:(ct:Int)=(lo:Int)+(v4:Int):=by omega
     have HCC:=hidG hcc
     clear hc hcc;go_wp2_with fail;go_meet
     case rel=>rw[HCC.out];exact V8
   case rest=>
   have V9:=hcut
   clear hcut V8 HCT;go_wp2_with fail;refine (hV.call D6 V9.out).mono ?_
   rintro o w10 ⟨rfl,V10⟩;clear V9 D6;have y6:=V10.out.p.cell 6 _ rfl
   have f6:=V10.out.p.free 6
   have V11:Hid (hV 41 Z21 w0 w b a n cap l g6 P κ (clN H.bx.length H) s (coL ⟨(ph:Int),(ct:Int),0,false,false,false,((v6:Int) == 0),false,0,(te:Int),(re:Int),clN H.bx.length H⟩ s) (w10.setCell ⟨P,6,none⟩ (bO ((v6:Int) == 0)))):=V10.out.set 6 _
   go_upto_region 12 with fail
   clear y6 f6 V10;generalize w10.setCell ⟨P,6,none⟩ (bO ((v6:Int) == 0))=w5 at *;have V5:Hid (hV 41 Z21 w0 w b a n cap l g6 P κ C1.ho s (coL C1 s) w5):=by rw[HC1.out];exact V11
   obtain⟨hR,hbC⟩:=HX.out
   clear V11 HC1 HX HB;rcases hR with⟨rfl,rfl,rfl⟩|⟨rfl,H2,g7,hfR,r2,hr2,hR⟩|⟨rfl,v,g7,D2,hR⟩|⟨hp,v,D2,rfl⟩|⟨rfl,rfl,rfl⟩|⟨rfl,rfl,rfl⟩|⟨rfl,v,g7,D2,hR⟩
   ·have yV6:=V5.out.p.cell 6 _ rfl
    have fV6:=V5.out.p.free 6
    have V6:Hid (hV 41 Z21 w0 w b a n cap l _ P κ C1.ho s (coL { C1 with tx:=false } s) (w5.setCell ⟨P,6,none⟩ (bO false))):=V5.out.set 6 _
    go_wp2_with (first | (refine hV.ldC V6.out ?_) | (refine hV.rtC V6.out rfl ?_;intro w8 b8 G8))
    exact bC Tryz.results120 (lv41 b8) ⟨_,_,rfl,G8.out.1,fun x hx=>V6.out.k x (by omega),G8.out.2⟩
   ·have HB1:=hidG hbC
    have hb2:=fR_bd hbC hfR
    obtain⟨r,hr,hfr⟩:=hfR
    have HR:=hidG hr
    have HR2:=hidG hr2
    clear hr hr2;have y6:=V5.out.p.cell 6 _ rfl
    obtain⟨tx,htx⟩ : ∃ t,C1.tx=t:=⟨_,rfl⟩
    have HTX:=hidG htx
    rw[htx] at y6
    obtain⟨c1,hc1⟩ : ∃ c,c=(tx && decide (r<0)):=⟨_,rfl⟩
    have HC1:=hidG hc1
    clear htx hc1;go_upto_region 16 with fail
    go_cut [76] (fun t wx=>t = bO c1∧Hid (hV 41 Z21 w0 w b a n cap l g6 P κ C1.ho s (coL C1 s) wx))
    case first=>
     have hc:=HC1.out
     cases tx
     ·obtain rfl:c1=false:=hc
      go_wp2_with fail;go_meet
      case rel=>exact⟨rfl,V5⟩
     ·go_wp2_with (refine wpList_load_midG (by first | rfl | (simp[Region.wanted,yielded];done)) 39 _ rfl P 11 rfl (hoL C1.ho s) _ V5.out.p.hostAt Tryz.underlying39 rfl (sz41L _ _) ?_)
      refine (l3best_any w5 C1.ho s V5.out.g.is.bx (by rw[V5.out.g.n2];exact HB1.out.b.2)).mono ?_
      rintro o w6 ⟨r',rfl,hr',hb6⟩;obtain rfl:r'=r:=bestR_one hr' HR.out
      have V6:=hidG (V5.out.below hb6)
      have hd:decide (r'<0)=c1:=by rw[hc];simp
      clear hr' hb6 hc;go_wp2_with fail;go_meet
      case rel=>exact⟨rfl,V6⟩
    case rest=>
    obtain⟨rfl,V6⟩:=hcut
    clear V5 y6;go_upto_if 76 with fail
    go_cut [] (fun wx=>∃ s6 κ6,Hid (hV 41 Z21 w0 w b a n cap l g7 P κ6 H2 s6 (coL { C1 with ho:=H2 } s6) wx))
    case first=>
     rcases hfr with⟨q1,q2,F,D3,hF,rfl⟩|⟨q1,rfl,rfl⟩
     ·have hc:c1=true:=by rw[HC1.out,← HTX.out,q1];simpa using q2
      subst hc;obtain⟨gb,hs0,e2,kb,hx,_⟩:=V6.out.g.x
      have x16:wc.cell? ⟨P,16,none⟩=some (sL (some ⟨gb,0,none⟩) s.n2 s.k2):=by rw[← e2];exact V6.out.p.cell 16 _ rfl
      have hn0:0<s.n2:=by rw[V6.out.g.n2];have:=HB1.out.b;omega
      have HK0:Hid (0<C1.ho.bx.length):=by have:=HB1.out.b;show _<_;omega
      have hcp:=hx.cap
      have HE:=hidG e2
      have HL:=hidG hF
      clear hx e2 kb q1 q2 hF;go_upto_region 18 with (refine hV.bxL (k:=0) V6.out HE.out HK0.out ?_;intro w7 V7)
      clear V6 x16;have V7:Hid (hV 41 Z21 w0 w b a n cap l g6 P κ (freeHo C1.ho 0) s (coL { C1 with ho:=freeHo C1.ho 0 } s) w7):=V7
      refine wp_region_held (S:=fun _=>True) (by kernel_rfl) ?_
      have V8:=hidG (V7.out.below (bW _ _).drew)
      change wpAnyH Tp _ _ _ _ _ _ _ (World.drew w7)
      generalize World.drew w7=v1 at *;clear V7;have hS:True:=trivial
      refine tk 0 ?_
      refine tk 2 ?_
      refine al2 1 3 (fun K2 hK2=>?_) (fun K2 hK2=>?_)
      rw[if_pos (by rfl)]
      refine hV.ldHW V8.out ?_
      refine hK2.out _ _ trivial (fun _=>?_)
      clear hK2 K2;refine al 3 fun K2 hK2=>?_
      go_simp;refine (hV.small D3 V8.out).mono ?_
      rintro o w8 ⟨g,kd,rfl,V9,BY⟩;focus go_wp2_with fail
      refine hK2.out _ _ trivial (fun _=>?_)
      clear hK2 K2 V8
      rotate_left
      go_simp;refine (hV.small D3 V8.out).mono ?_
      rintro o w8 ⟨g,kd,rfl,V9,BY⟩;focus go_wp2_with fail
      refine hK2.out _ _ trivial (fun _=>?_)
      clear hK2 K2 V8;refine al 1 fun K2 hK2=>?_
      rw[if_pos (by rfl)]
      refine hV.ldHW V9.out ?_
      refine hK2.out _ _ trivial (fun _=>?_)
      clear hK2 K2
      all_goals
       have HB7:=hidG (HB1.out.free 0)
       refine al 4 fun K2 hK2=>?_
       go_simp;refine (submit_G V9.out.g 77 F _ _ kd BY.out.1 (by have:=HL.out;omega) (by have:=HB7.out.b;omega) (by have:=HB7.out.q;omega) HB7.out.lo HB7.out.st).mono ?_
       rintro o w9 ⟨s9,κ9,rfl,G9⟩;have V10:=hidG (V9.out.mv G9.out)
       focus go_wp2_with fail
       refine hK2.out _ _ trivial (fun _=>?_)
       clear hK2 K2 V9 G9;refine tk 5 ?_
       refine al 6 fun K2 hK2=>?_
       rw[if_pos (by rfl)]
       refine hV.svHW V10.out ?_
       intro w11 V11;refine hK2.out _ _ trivial (fun _=>?_)
       clear hK2 K2 V10;refine wpAnyH_done (by kernel_rfl) ?_ _
       try simp only[Act.put]
       go_wp2_with fail;go_meet
       case rel=>exact⟨s9,κ9,V11⟩
     ·have hc:c1=false:=by
       rw[HC1.out,← HTX.out]
       simpa using q1
      subst hc;go_wp2_with fail;go_meet
      case rel=>exact⟨s,κ,V6⟩
    case rest=>
    obtain⟨s6,κ6,V7⟩:=hcut
    clear V6 hfr HR HC1 HB1;have HB2:=hidG hb2
    clear hb2;have y6:wc.cell? ⟨P,6,none⟩=some (bO tx):=by rw[← HTX.out];exact V7.out.p.cell 6 _ rfl
    obtain⟨c2,hc2⟩ : ∃ c,c=(tx && decide (0≤r2)):=⟨_,rfl⟩
    have HC2:=hidG hc2
    clear hc2;go_upto_region 19 with fail
    go_cut [95] (fun t wx=>t = bO c2∧Hid (hV 41 Z21 w0 w b a n cap l g7 P κ6 H2 s6 (coL { C1 with ho:=H2 } s6) wx))
    case first=>
     have hc:=HC2.out
     cases tx
     ·obtain rfl:c2=false:=hc
      go_wp2_with fail;go_meet
      case rel=>exact⟨rfl,V7⟩
     ·go_wp2_with (refine wpList_load_midG (by first | rfl | (simp[Region.wanted,yielded];done)) 39 _ rfl P 11 rfl (hoL H2 s6) _ V7.out.p.hostAt Tryz.underlying39 rfl (sz41L _ _) ?_)
      refine (l3best_any wc H2 s6 V7.out.g.is.bx (by rw[V7.out.g.n2];exact HB2.out.b.2)).mono ?_
      rintro o w8 ⟨r',rfl,hr',hb8⟩;obtain rfl:r'=r2:=bestR_one hr' HR2.out
      have V8:=hidG (V7.out.below hb8)
      have hd:decide (0≤r')=c2:=by rw[hc];simp
      clear hr' hb8 hc;go_wp2_with fail;go_meet
      case rel=>exact⟨rfl,V8⟩
    case rest=>
    obtain⟨rfl,V8⟩:=hcut
    clear V7 y6;rcases hR with⟨htx,i,hi,rfl,t,ht,D3,rfl⟩|⟨hno,rfl,rfl⟩
    ·obtain rfl:c2=true:=by rw[HC2.out,← HTX.out,htx];simp
     have HI:=hidG hi
     have hi8:i≤8:=by have:=HB2.out.b;omega
     have hw2:IntKind.i64.wrap (2+(t:Int))=2+(t:Int):=by rw[IntKind.wrap_i64];omega
     clear htx;go_wp2_with (refine hV.ldH V8.out ?_)
     refine (l3best_any wc H2 s6 V8.out.g.is.bx (by rw[V8.out.g.n2];exact HB2.out.b.2)).mono ?_
     rintro o w9 ⟨r',rfl,hr',hb9⟩;obtain rfl:r'=(i:Int):=bestR_one hr' HR2.out
     have V9:=hidG (V8.out.below hb9)
     clear hr' hb9 V8;obtain⟨gb,hs0,e2,kb,hx,_⟩:=V9.out.g.x
     have hcp:=hx.cap
     have hin:i<s6.n2:=by have:=hx.len;omega
     have HE:=hidG e2
     clear hx e2 kb;go_wp2_with fail;refine wp_region_held (S:=fun X=>blk X P (coL { C1 with ho:=H2 } s6) 41) (by kernel_rfl) ?_
     have V10:=hidG (V9.out.below (bW _ _).drew)
     change wpAnyH Tp _ _ _ _ _ _ _ (World.drew w9)
     generalize World.drew w9=v1 at *;clear V9;have hS:=V10.out.p
     refine tk 0 ?_
     refine tk 1 ?_
     refine tk 2 ?_ (hy:=fun W hW=>by (have x16:=hW.cell 16 _ rfl;rw[HE.out] at x16;go_simp;try rfl))
     refine tk 3 ?_
     refine tk 4 ?_
     refine al 5 fun K2 hK2=>?_
     go_simp;refine (hV.call D3 V10.out).mono ?_
     rintro o w11 ⟨rfl,V11⟩;focus go_wp2_with fail
     refine hK2.out _ _ V11.out.p (fun hS2=>?_)
     clear hK2 K2 hS V10;have hS:=hS2
     clear hS2;refine tk 6 ?_
     refine tk 7 ?_
     refine tk 8 ?_
     refine al 9 fun K2 hK2=>?_
     obtain⟨V12,hq,⟨xx,y0⟩,f0⟩:=V11.out.stX HE.out HI.out (2+(t:Int))
     have V12:=hidG V12
     go_simp;refine hK2.out _ _ hq (fun _=>?_)
     clear hK2 K2 hq hS;refine wpAnyH_done (by kernel_rfl) ?_ _
     try simp only[Act.put]
     go_wp2_with (first | (refine hV.ldC V12.out ?_) | (refine hV.rtC V12.out rfl ?_;intro w8 b8 G8))
     exact bC Tryz.results120 (lv41 b8) ⟨_,_,rfl,G8.out.1,fun x hx=>V12.out.k x (by omega),G8.out.2⟩
    ·obtain rfl:c2=false:=by
      rw[HC2.out,← HTX.out]
      simpa using hno
     have y6:=V8.out.p.cell 6 _ rfl
     have f6:=V8.out.p.free 6
     have V9:Hid (hV 41 Z21 w0 w b a n cap l _ P κ6 H2 s6 (coL { C1 with ho:=H2,tx:=false } s6) (wc.setCell ⟨P,6,none⟩ (bO false))):=V8.out.set 6 _
     go_wp2_with (first | (refine hV.ldC V9.out ?_) | (refine hV.rtC V9.out rfl ?_;intro w8 b8 G8))
     exact bC Tryz.results120 (lv41 b8) ⟨_,_,rfl,G8.out.1,fun x hx=>V9.out.k x (by omega),G8.out.2⟩
   ·have y1:=V5.out.p.cell 1 _ rfl
    have y6:=V5.out.p.cell 6 _ rfl
    go_wp2_with fail;refine (hV.call D2 V5.out).mono ?_
    rintro o w6 ⟨rfl,V6⟩;clear V5 y1 y6 D2;rcases hR with⟨rfl,rfl,rfl⟩|⟨rfl,ow,g8,h3,h4⟩|⟨rfl,rfl,rfl⟩
    ·have yV7:=V6.out.p.cell 4 _ rfl
     have fV7:=V6.out.p.free 4
     have V7:Hid (hV 41 Z21 w0 w b a n cap l _ P κ C1.ho s (coL { C1 with ov:=true } s) (w6.setCell ⟨P,4,none⟩ (bO true))):=V6.out.set 4 _
     go_wp2_with (first | (refine hV.ldC V7.out ?_) | (refine hV.rtC V7.out rfl ?_;intro w8 b8 G8))
     exact bC Tryz.results120 (lv41 b8) ⟨_,_,rfl,G8.out.1,fun x hx=>V7.out.k x (by omega),G8.out.2⟩
    ·have yV7:=V6.out.p.cell 3 _ rfl
     have fV7:=V6.out.p.free 3
     have V7:Hid (hV 41 Z21 w0 w b a n cap l _ P κ C1.ho s (coL { C1 with wk:=true } s) (w6.setCell ⟨P,3,none⟩ (bO true))):=V6.out.set 3 _
     go_upto_region 29 with fail
     clear yV7 fV7 V6;generalize w6.setCell ⟨P,3,none⟩ (bO true)=w7 at *;have y6:=V7.out.p.cell 6 _ rfl
     have y5:=V7.out.p.cell 5 _ rfl
     have f5:=V7.out.p.free 5
     go_cut [] (fun wx=>Hid (hV 41 Z21 w0 w b a n cap l g8 P κ C1.ho s (coL { C1 with wk:=true,ow:=ow } s) wx))
     case first=>
      rcases h3 with⟨ht,t,D3,rfl⟩|⟨ht,rfl,rfl⟩
      ·rw[ht] at y6
       go_wp2_with fail;refine (hV.call D3 V7.out).mono ?_
       rintro o w8 ⟨rfl,V8⟩;have y5:=V8.out.p.cell 5 _ rfl
       have f5:=V8.out.p.free 5
       have V9:Hid (hV 41 Z21 w0 w b a n cap l _ P κ C1.ho s (coL { C1 with wk:=true,ow:=((t:Int) == 0) } s) (w8.setCell ⟨P,5,none⟩ (bO ((t:Int) == 0)))):=V8.out.set 5 _
       go_wp2_with fail;go_meet
       case rel=>exact V9
      ·rw[ht] at y6
       have V9:Hid (hV 41 Z21 w0 w b a n cap l _ P κ C1.ho s (coL { C1 with wk:=true,ow:=false } s) (w7.setCell ⟨P,5,none⟩ (bO false))):=V7.out.set 5 _
       go_wp2_with fail;go_meet
       case rel=>exact V9
     case rest=>
     have V8:=hcut
     clear hcut V7 y6 y5 f5 h3;have y1:=V8.out.p.cell 1 _ rfl
     rcases h4 with⟨hc,t,D4,rfl⟩|⟨hc,rfl,rfl⟩
     ·have d1:decide (0<C1.ct)=true:=by simpa using hc
      clear hc;go_wp2_with fail;refine (hV.call D4 V8.out).mono ?_
      rintro o w9 ⟨rfl,V9⟩;have y2:=V9.out.p.cell 2 _ rfl
      have f2:=V9.out.p.free 2
      have V10:Hid (hV 41 Z21 w0 w b a n cap l _ P κ C1.ho s (coL { C1 with wk:=true,ow:=ow,lv:=(t:Int) } s) (w9.setCell ⟨P,2,none⟩ (I J (t:Int)))):=V9.out.set 2 _
      go_wp2_with (first | (refine hV.ldC V10.out ?_) | (refine hV.rtC V10.out rfl ?_;intro w8 b8 G8))
      exact bC Tryz.results120 (lv41 b8) ⟨_,_,rfl,G8.out.1,fun x hx=>V10.out.k x (by omega),G8.out.2⟩
     ·have d1:decide (0<C1.ct)=false:=by simpa using hc
      clear hc;go_wp2_with (first | (refine hV.ldC V8.out ?_) | (refine hV.rtC V8.out rfl ?_;intro w8 b8 G8))
      exact bC Tryz.results120 (lv41 b8) ⟨_,_,rfl,G8.out.1,fun x hx=>V8.out.k x (by omega),G8.out.2⟩
    ·go_wp2_with (first | (refine hV.ldC V6.out ?_) | (refine hV.rtC V6.out rfl ?_;intro w8 b8 G8))
     exact bC Tryz.results120 (lv41 b8) ⟨_,_,rfl,G8.out.1,fun x hx=>V6.out.k x (by omega),G8.out.2⟩
   ·rcases hp with rfl|rfl
    all_goals
     go_wp2_with fail;refine (hV.call D2 V5.out).mono ?_
     rintro o w6 ⟨rfl,V6⟩;have yV7:=V6.out.p.cell 4 _ rfl
     have fV7:=V6.out.p.free 4
     have V7:Hid (hV 41 Z21 w0 w b a n cap l _ P κ C1.ho s (coL { C1 with ov:=((v:Int) == 0) } s) (w6.setCell ⟨P,4,none⟩ (bO ((v:Int) == 0)))):=V6.out.set 4 _
     go_wp2_with (first | (refine hV.ldC V7.out ?_) | (refine hV.rtC V7.out rfl ?_;intro w8 b8 G8))
     exact bC Tryz.results120 (lv41 b8) ⟨_,_,rfl,G8.out.1,fun x hx=>V7.out.k x (by omega),G8.out.2⟩
   ·go_wp2_with (first | (refine hV.ldC V5.out ?_) | (refine hV.rtC V5.out rfl ?_;intro w8 b8 G8))
    exact bC Tryz.results120 (lv41 b8) ⟨_,_,rfl,G8.out.1,fun x hx=>V5.out.k x (by omega),G8.out.2⟩
   ·have yV6:=V5.out.p.cell 6 _ rfl
    have fV6:=V5.out.p.free 6
    have V6:Hid (hV 41 Z21 w0 w b a n cap l _ P κ C1.ho s (coL { C1 with tx:=true } s) (w5.setCell ⟨P,6,none⟩ (bO true))):=V5.out.set 6 _
    go_wp2_with (first | (refine hV.ldC V6.out ?_) | (refine hV.rtC V6.out rfl ?_;intro w8 b8 G8))
    exact bC Tryz.results120 (lv41 b8) ⟨_,_,rfl,G8.out.1,fun x hx=>V6.out.k x (by omega),G8.out.2⟩
   ·have yV6:=V5.out.p.cell 6 _ rfl
    have fV6:=V5.out.p.free 6
    have V6:Hid (hV 41 Z21 w0 w b a n cap l _ P κ C1.ho s (coL { C1 with tx:=false } s) (w5.setCell ⟨P,6,none⟩ (bO false))):=V5.out.set 6 _
    go_upto_region 39 with fail
    clear yV6 fV6 V5;generalize w5.setCell ⟨P,6,none⟩ (bO false)=w6 at *;have yV7:=V6.out.p.cell 9 _ rfl
    have fV7:=V6.out.p.free 9
    have V7:Hid (hV 41 Z21 w0 w b a n cap l _ P κ C1.ho s (coL { C1 with tx:=false,te:=256 } s) (w6.setCell ⟨P,9,none⟩ (I J 256))):=V6.out.set 9 _
    go_upto_region 40 with fail
    clear yV7 fV7 V6;generalize w6.setCell ⟨P,9,none⟩ (I J 256)=w7 at *;go_wp2_with fail;refine (hV.call D2 V7.out).mono ?_
    rintro o w8 ⟨rfl,V8⟩;clear V7 D2;have y7:=V8.out.p.cell 7 _ rfl
    have f7:=V8.out.p.free 7
    rcases hR with⟨hv,u,g8,D3,t,D4,ht⟩|⟨rfl,rfl,rfl⟩
    ·have d1:decide (0<v)=true:=by simpa using hv
     have V9:Hid (hV 41 Z21 w0 w b a n cap l _ P κ C1.ho s (coL { C1 with tx:=false,te:=256,ak:=true } s) (w8.setCell ⟨P,7,none⟩ (bO true))):=V8.out.set 7 _
     go_upto_region 41 with fail
     clear y7 f7 V8;generalize w8.setCell ⟨P,7,none⟩ (bO true)=w9 at *;have y7:=V9.out.p.cell 7 _ rfl
     go_wp2_with fail;refine (hV.call D3 V9.out).mono ?_
     rintro o w10 ⟨rfl,V10⟩;clear V9 D3 y7;have y8:=V10.out.p.cell 8 _ rfl
     have f8:=V10.out.p.free 8
     have V11:Hid (hV 41 Z21 w0 w b a n cap l _ P κ C1.ho s (coL { C1 with tx:=false,te:=256,ak:=true,rn:=(u:Int) } s) (w10.setCell ⟨P,8,none⟩ (I J (u:Int)))):=V10.out.set 8 _
     go_upto_region 43 with fail
     clear y8 f8 V10;generalize w10.setCell ⟨P,8,none⟩ (I J (u:Int))=w11 at *;go_wp2_with fail;refine (hV.call D4 V11.out).mono ?_
     rintro o w12 ⟨rfl,V12⟩;clear V11 D4;rcases ht with⟨rfl,rfl⟩|⟨ht,rfl⟩
     ·have y8:=V12.out.p.cell 8 _ rfl
      have f8:=V12.out.p.free 8
      have V13:Hid (hV 41 Z21 w0 w b a n cap l _ P κ C1.ho s (coL { C1 with tx:=false,te:=256,ak:=true,rn:=127 } s) (w12.setCell ⟨P,8,none⟩ (I J 127))):=V12.out.set 8 _
      go_wp2_with (first | (refine hV.ldC V13.out ?_) | (refine hV.rtC V13.out rfl ?_;intro w8 b8 G8))
      exact bC Tryz.results120 (lv41 b8) ⟨_,_,rfl,G8.out.1,fun x hx=>V13.out.k x (by omega),G8.out.2⟩
     ·have e1:((t:Int) == 0)=false:=by simp;omega
      go_wp2_with (first | (refine hV.ldC V12.out ?_) | (refine hV.rtC V12.out rfl ?_;intro w8 b8 G8))
      exact bC Tryz.results120 (lv41 b8) ⟨_,_,rfl,G8.out.1,fun x hx=>V12.out.k x (by omega),G8.out.2⟩
    ·have V9:Hid (hV 41 Z21 w0 w b a n cap l _ P κ C1.ho s (coL { C1 with tx:=false,te:=256,ak:=false } s) (w8.setCell ⟨P,7,none⟩ (bO false))):=V8.out.set 7 _
     go_upto_region 41 with fail
     clear y7 f7 V8;generalize w8.setCell ⟨P,7,none⟩ (bO false)=w9 at *;have y7:=V9.out.p.cell 7 _ rfl
     have yV10:=V9.out.p.cell 1 _ rfl
     have fV10:=V9.out.p.free 1
     have V10:Hid (hV 41 Z21 w0 w b a n cap l _ P κ C1.ho s (coL { C1 with tx:=false,te:=256,ak:=false,ct:=0 } s) (w9.setCell ⟨P,1,none⟩ (I J 0))):=V9.out.set 1 _
     go_wp2_with (first | (refine hV.ldC V10.out ?_) | (refine hV.rtC V10.out rfl ?_;intro w8 b8 G8))
     exact bC Tryz.results120 (lv41 b8) ⟨_,_,rfl,G8.out.1,fun x hx=>V10.out.k x (by omega),G8.out.2⟩
end Go.Proofs.YtkfcfigbgmbaiaaGreat
