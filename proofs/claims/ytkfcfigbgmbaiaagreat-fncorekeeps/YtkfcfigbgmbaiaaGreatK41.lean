import Derived.Test.YtkfcfigbgmbaiaaGreatK39
namespace Go.Proofs.YtkfcfigbgmbaiaaGreat
set_option maxRecDepth 40000
open Go.RowKit
set_option linter.unusedVariables false
set_option maxHeartbeats 16000000
open Go.Value renaming int→I,slice→sL,bool→bO,pointer→pT,agg→aG
open Go.IntKind renaming i64→J
open Go.Ending renaming returned→rT
open Go.Proofs.Tryz renaming prog→Tp
structure mvS (b:Nat) (κ:Nat→Nat) (W:World) (κ':Nat→Nat) (W':World):Prop where
 s:W.heap.size≤W'.heap.size
 c:∀ x,x<W.heap.size→κ' x=κ x
 k:∀ x,x<W.heap.size→κ x=0→x≠b→W'.heap[x]?=W.heap[x]?
 o:W'.os=W.os∧W'.tape=W.tape∧W'.output=W.output
structure fS (T:Nat) (Z:List Value) (w0 w:World) (b:Nat) (a:Option Addr) (n cap:Nat) (l:List Nat) (σ:Sg) (κ0 κ:Nat→Nat) (H:Ho) (sl:Sl) (L:List Value) (W:World):Prop where
 s:srcF w0 b a n cap l σ W
 p:blk W w.heap.size L T
 r:blk W (w.heap.size+1) Z T
 g:hG κ H sl W
 m:mvS b κ0 w κ W
 x:κ w.heap.size=0∧κ (w.heap.size+1)=0∧b<w.heap.size
 k:∀ x,x≤b→κ x=0
section
variable {κ κ' κ0 : Nat → Nat} {H H' H2 : Ho} {s s' s2 : Sl} {w0 w W W' : World} {b : Nat} {a : Option Addr} {n cap : Nat} {l : List Nat} {σ σ' τ : Sg} {T : Nat} {L Z : List Value}
theorem mvS.on (h:mvS b κ0 w κ W) (q:onS b W W') (hk:∀ x,x<W.heap.size→x≠b→W'.heap[x]?=W.heap[x]?):mvS b κ0 w κ W':=⟨nT h.s q.s,h.c,fun x h1 h2 h3=>(hk x (nL h1 h.s) h3).trans (h.k x h1 h2 h3),q.o.1.trans h.o.1,q.o.2.1.trans h.o.2.1,q.o.2.2.trans h.o.2.2⟩
theorem fS.on (h:fS T Z w0 w b a n cap l σ κ0 κ H s L W) (hs:srcF w0 b a n cap l σ' W') (q:onS b W W'):fS T Z w0 w b a n cap l σ' κ0 κ H s L W':=
 ⟨hs,h.p.kept (q.k _ (by have:=h.x;omega) h.p.lt),h.r.kept (q.k _ (by have:=h.x;omega) h.r.lt),h.g.st (fun x hx=>q.k x (by rintro rfl;exact hx (h.k _ (nR _))) (h.g.sm x hx)) q.s,h.m.on q (fun x h1 h2=>q.k x h2 h1),h.x,h.k⟩
theorem fS.below (h:fS T Z w0 w b a n cap l σ κ0 κ H s L W) (q:Below W.heap.size W W'):fS T Z w0 w b a n cap l σ κ0 κ H s L W':=h.on (h.s.below q) (onS.of q)
theorem fS.call {f:Nat} {args:List Value} {v:Value} (D:dr f args l σ v τ) (h:fS T Z w0 w b a n cap l σ κ0 κ H s L W):Calls Tp f (pT (some ⟨b,0,none⟩) :: args).toArray W fun o w'=>o = rT v∧Hid (fS T Z w0 w b a n cap l τ κ0 κ H s L w'):=
 (D.out _ _ _ _ _ _ h.s).mono fun _ _ q=>⟨q.1,h.on q.2.1 q.2.2⟩
theorem fS.mv (h:fS T Z w0 w b a n cap l σ κ0 κ H s L W) (hg:hG κ' H' s' W'∧mvH κ W κ' W'):fS T Z w0 w b a n cap l σ κ0 κ' H' s' L W':=by
 have hz:=h.m.s
 have hp:=h.p.lt
 have hr:=h.r.lt
 have hx:=h.x
 exact⟨h.s.mv hg.2 h.k (nR _),hg.2.blk h.p h.x.1,hg.2.blk h.r h.x.2.1,hg.1,⟨nT h.m.s hg.2.s,fun x hx=>(hg.2.c x (by omega)).trans (h.m.c x hx),fun x h1 h2 h3=>(hg.2.k x (by omega) (by rw[h.m.c x h1];exact h2)).trans (h.m.k x h1 h2 h3),hg.2.o.1.trans h.m.o.1,hg.2.o.2.1.trans h.m.o.2.1,hg.2.o.2.2.trans h.m.o.2.2⟩,⟨(hg.2.c _ hp).trans h.x.1,(hg.2.c _ hr).trans h.x.2.1,h.x.2.2⟩,fun x hx'=>(hg.2.c x (by omega)).trans (h.k x hx')⟩
theorem fS.cells (h:fS T Z w0 w b a n cap l σ κ0 κ H s L W) (q:Nat) (hq:q=w.heap.size∨q=w.heap.size+1) (o:Nat) (vs:List Value) {L' Z':List Value} (hL:blk (W.setCells q o vs) w.heap.size L' T) (hZ:blk (W.setCells q o vs) (w.heap.size+1) Z' T):fS T Z' w0 w b a n cap l σ κ0 κ H s L' (W.setCells q o vs):=by
 have he:∀ x,x≠q→(W.setCells q o vs).heap[x]?=W.heap[x]?:=fun x hx=>sO _ x hx _ _ _
 have hz:W.heap.size≤(W.setCells q o vs).heap.size:=by rw[sZ];exact nR _
 have hx:=h.x
 have hb:=h.s.hb
 have h8:=sW (B:=0) (nZ q) o vs (bW 0 W)
 have hkq:κ q=0:=by rcases hq with e | e <;> rw[e];exact hx.1;exact hx.2.1
 exact⟨h.s.other (q:=q) (by omega) (by omega) (fun x h1 _=>he x h1) hz ⟨h8.os,h8.tape,h8.output⟩,hL,hZ,h.g.cells hkq _ _,⟨nT h.m.s hz,h.m.c,fun x h1 h2 h3=>(he x (by omega)).trans (h.m.k x h1 h2 h3),h8.os.trans h.m.o.1,h8.tape.trans h.m.o.2.1,h8.output.trans h.m.o.2.2⟩,hx,h.k⟩
theorem fS.set (h:fS T Z w0 w b a n cap l σ κ0 κ H s L W) (i:Nat) (v:Value):fS T Z w0 w b a n cap l σ κ0 κ H s (L.set i v) (W.setCell ⟨w.heap.size,i,none⟩ v):=h.cells _ (Or.inl rfl) i [v] (h.p.set i v) (h.r.other (by omega) _ _)
theorem fS.put (h:fS T Z w0 w b a n cap l σ κ0 κ H s L W) (o:Nat) (vs L':List Value) (hL:blk (W.setCells w.heap.size o vs) w.heap.size L' T):fS T Z w0 w b a n cap l σ κ0 κ H s L' (W.setCells w.heap.size o vs):=h.cells _ (Or.inl rfl) o vs hL (h.r.other (by omega) _ _)
theorem fS.host (h:fS T Z w0 w b a n cap l σ κ0 κ H s L W) (hf:H'.fs=H.fs∧H'.bx=H.bx∧H'.ff=H.ff∧H'.qu=H.qu):fS T Z w0 w b a n cap l σ κ0 κ H' s L W:=by
 refine⟨h.s,h.p,h.r,⟨?_,?_,?_,?_,h.g.sm⟩,h.m,h.x,h.k⟩
 ·rw[hf.1];exact h.g.f
 ·rw[hf.2.1];exact h.g.x
 ·rw[hf.2.2.1];exact h.g.r
 ·rw[hf.2.2.2];exact h.g.q
theorem fS.col (h:fS T Z w0 w b a n cap l σ κ0 κ H s L W) {g:Nat} (hg:g<W.heap.size) (hw:w.heap.size≤g) (h0:κ g=0) (c:Nat) (hn:g≠w.heap.size∧g≠w.heap.size+1):fS T Z w0 w b a n cap l σ κ0 (fun x=>if x=g then c else κ x) H s L W:=
 have hx:=h.x
 ⟨h.s,h.p,h.r,h.g.col hg h0 c,⟨h.m.s,fun x hx=>(if_neg (by omega)).trans (h.m.c x hx),h.m.k,h.m.o⟩,⟨(if_neg (fun e=>hn.1 e.symm)).trans h.x.1,(if_neg (fun e=>hn.2 e.symm)).trans h.x.2.1,h.x.2.2⟩,fun x hx'=>(if_neg (by omega)).trans (h.k x hx')⟩
theorem fS.new (hs:srcF w0 b a n cap l σ w) (hg:hG κ H s w) (hk:∀ x,x≤b→κ x=0) (Z L:List Value) (T:Nat):fS T Z w0 w b a n cap l σ κ κ H s L ((w.alloc (.cells L.toArray T)).alloc (.cells Z.toArray T)):=by
 have hb:Below w.heap.size w ((w.alloc (.cells L.toArray T)).alloc (.cells Z.toArray T)):=((bW _ _).alloc (nR _) _).alloc (by simp) _
 exact⟨hs.below hb,(blk.new w _ T).alloc _,by simpa using blk.new (w.alloc (.cells L.toArray T)) Z T,hg.below hb,⟨hb.size,fun _ _=>rfl,fun x hx _ _=>hb.block x hx,hb.os,hb.tape,hb.output⟩,⟨hg.no (nR _),hg.no (nA _ _),hs.at_.lt⟩,hk⟩
def anE (l:List Nat) (σ:Sg) (F:R5) (τ:Sg):Prop:=Hid (∀ (w0 w:World) (b:Nat) (a:Option Addr) (n cap:Nat),srcF w0 b a n cap l σ w→Calls Tp 205 #[pT (some ⟨b,0,none⟩)] w (frO w0 w b a n cap l (F,τ)))
theorem fS.any {F:R5} (D:anE l σ F τ) (c:Nat) (h:fS T Z w0 w b a n cap l σ κ0 κ H s L W):Calls Tp 205 #[pT (some ⟨b,0,none⟩)] W fun o w'=>∃ g k κ',o = rT (frV F.e F.i F.r F.d (some ⟨g,0,none⟩) F.l.length k)∧Hid (fS T Z w0 w b a n cap l τ κ0 κ' H s L w')∧Hid (iB w' (some ⟨g,0,none⟩) F.l.length k F.l∧g<w'.heap.size∧κ' g=c∧W.heap.size≤g):=by
 refine (D.out _ _ _ _ _ _ h.s).mono ?_
 rintro o w' ⟨g,k,rfl,h1,h2,h3,h4,_⟩;have hp:=h.p.lt
 have hr:=h.r.lt
 exact⟨g,k,_,rfl,(h.on h3 h4).col h1.2 (by omega) (h.g.no h1.1) c ⟨by omega,by omega⟩,h2.now,h1.2,if_pos rfl,h1.1⟩
variable {ops : Array Oper} {rest : List Oper} {op : Oper} {ac : Act} {Q : Exit → Act → World → Prop} {x y : Operand}
theorem fS.ldL (h:fS 39 Z w0 w b a n cap l σ κ0 κ H s (hoL H2 s2) W) (hK:wpList Tp ops Q rest (ac.put op.dst (aG (hoL H2 s2).toArray)) W) (hgd:op.guard=none:=by rfl) (ho:op.op = .load 39 x:=by rfl) (hx:ac.eval x = pT (some ⟨w.heap.size,0,none⟩):=by rfl):wpList Tp ops Q (op :: rest) ac W:=
 wpList_load_mid (P:=Tp) hgd 39 x ho w.heap.size 0 hx (hoL H2 s2) _ h.p.load Tryz.underlying39 rfl (sz41L _ _) hK
theorem fS.rtL (h:fS 39 Z w0 w b a n cap l σ κ0 κ H s L W) (hZ:Z.length=10) (hK:∀ W8,blk W8 (w.heap.size+1) (hoL H2 s2) 39→Hid (hG κ H s W8∧srcF w0 b a n cap l σ W8∧mvS b κ0 w κ W8)→wpList Tp ops Q rest (ac.put op.dst undef) W8) (hgd:op.guard=none:=by rfl) (ho:op.op = .store 39 x y:=by rfl) (hx:ac.eval x = pT (some ⟨w.heap.size+1,0,none⟩):=by rfl) (hy:ac.eval y = aG (hoL H2 s2).toArray:=by rfl):wpList Tp ops Q (op :: rest) ac W:=by
 have hb:blk (W.setCells (w.heap.size+1) 0 (hoL H2 s2)) (w.heap.size+1) (hoL H2 s2) 39:=by simpa using blk.put [] Z [] (hoL H2 s2) (by simpa using h.r) hZ
 have q:=h.cells (w.heap.size+1) (Or.inr rfl) 0 (hoL H2 s2) (h.p.other (by omega) _ _) hb
 exact wpList_store_mid (P:=Tp) hgd 39 x y ho (w.heap.size+1) 0 (hoL H2 s2).toArray hx hy (h.r.there 0 10 (by omega)) (sz41A _ _) (hoL_one _ _) (hK _ hb ⟨q.g,q.s,q.m⟩)
end
theorem Ho.le.setb {H:Ho} {m:Nat} (h:H.le m) (k:Nat) {b:R8} (hb:b.l.length≤m):Ho.le { H with bx:=H.bx.set k b } m:=by
 refine⟨h.fs,by show (H.bx.set k b).length≤m;rw[List.length_set];exact h.bx,h.ff,h.qu,fun j hj=>?_,h.fd,h.qd⟩
 have hj':j<H.bx.length:=by simpa using hj
 show ((H.bx.set k b)[j]'hj).l.length≤m
 rw[List.getElem_set]
 split
 ·exact hb
 ·exact h.bd j hj'
theorem le_snoc5 {m:Nat} {L:List R5} {F:R5} (h:∀ j (hj:j<L.length),L[j].l.length≤m) (hF:F.l.length≤m):∀ j (hj:j<(L++[F]).length),(L++[F])[j].l.length≤m:=fun j hj=>by
 rw[List.getElem_append]
 split
 ·exact h j _
 ·simpa using hF
theorem le_snoc8 {m:Nat} {L:List R8} {F:R8} (h:∀ j (hj:j<L.length),L[j].l.length≤m) (hF:F.l.length≤m):∀ j (hj:j<(L++[F]).length),(L++[F])[j].l.length≤m:=fun j hj=>by
 rw[List.getElem_append]
 split
 ·exact h j _
 ·simpa using hF
def spR (l:List Nat) (H:Ho) (k:Nat) (hk:k<H.bx.length) (v:Nat) (σ:Sg) (H':Ho) (τ:Sg):Prop:=
 (v=0∧H' = { H with c0:=IntKind.i64.wrap (H.c0+1) }∧τ=σ) ∨
 (v=1∧H' = { H with c2:=2 }∧τ=σ) ∨
 (v=2∧H' = { H with fs:=H.fs++[⟨false,2048,0⟩] }∧τ=σ) ∨
 (v=3∧H' = { H with bx:=H.bx.set k { H.bx[k] with y:=IntKind.i64.wrap (H.bx[k].y+1) } }∧τ=σ) ∨
 (v=4∧∃ t:Nat,dr 60 [I J 5] l σ (I J (t:Int)) τ∧H' = { H with bx:=H.bx.set k { H.bx[k] with x:=(t:Int) } }) ∨
 (v=5∧∃ F:R5,anE l σ F τ∧F.l.length≤9∧H' = { H with bx:=H.bx.set k ⟨H.bx[k].x,H.bx[k].y,H.bx[k].z,F.e,F.i,F.r,F.d,F.l⟩ }) ∨
 (v=6∧∃ t:Nat,t<4∧dr 60 [I J 4] l σ (I J (t:Int)) τ∧H' = { H with st:=(t:Int)-1 }) ∨
 (v=7∧H' = { H with lo:=-1 }∧τ=σ) ∨
 (v=8∧∃ F:R5,anE l σ F τ∧F.l.length≤9∧H' = { H with ff:=H.ff++[F] }) ∨
 (v=9∧∃ (t1 t2 t3:Nat) (s1 s2 s3:Sg) (F:R5),t2<3∧dr 60 [I J 15] l σ (I J (t1:Int)) s1∧dr 60 [I J 3] l s1 (I J (t2:Int)) s2∧dr 60 [I J 12] l s2 (I J (t3:Int)) s3∧anE l s3 F τ∧F.l.length≤9∧H' = { H with qu:=H.qu++[⟨(t1:Int),(t2:Int)-1,(t3:Int),F.e,F.i,F.r,F.d,F.l⟩] }) ∨
 (v=10∧∃ t:Nat,dr 60 [I J 4] l σ (I J (t:Int)) τ∧H' = { H with bx:=H.bx.set k { H.bx[k] with z:=(t:Int) } }) ∨
 (v=11∧H' = { H with c3:=33 }∧τ=σ)
theorem spR_ex (l:List Nat) (H:Ho) (hb:bdH H) (k:Nat) (hk:k<H.bx.length) (v:Nat) (hv:v<12) (σ:Sg) (hi:σ.1+300≤1000000000):∃ H' τ,spR l H k hk v σ H' τ∧H'.le 1048576∧τ.1≤σ.1+40:=by
 have hl:=hb.le
 obtain rfl|rfl|rfl|rfl|rfl|rfl|rfl|rfl|rfl|rfl|rfl|rfl:v=0∨v=1∨v=2∨v=3∨v=4∨v=5∨v=6∨v=7∨v=8∨v=9∨v=10∨v=11:=by omega
 ·exact⟨_,_,Or.inl ⟨rfl,rfl,rfl⟩,⟨hl.fs,hl.bx,hl.ff,hl.qu,hl.bd,hl.fd,hl.qd⟩,by omega⟩
 ·exact⟨_,_,Or.inr (Or.inl ⟨rfl,rfl,rfl⟩),⟨hl.fs,hl.bx,hl.ff,hl.qu,hl.bd,hl.fd,hl.qd⟩,by omega⟩
 ·exact⟨_,_,Or.inr (Or.inr (Or.inl ⟨rfl,rfl,rfl⟩)),⟨by have:=hb.f;show (H.fs++[_]).length≤_;simp;omega,hl.bx,hl.ff,hl.qu,hl.bd,hl.fd,hl.qd⟩,by omega⟩
 ·exact⟨_,_,Or.inr (Or.inr (Or.inr (Or.inl ⟨rfl,rfl,rfl⟩))),hl.setb k (hl.bd k hk),by omega⟩
 ·obtain⟨t,s2,p2,q2,D2⟩:=nE l σ 5 5 rfl (by decide) (by decide) (by omega)
  exact⟨_,_,Or.inr (Or.inr (Or.inr (Or.inr (Or.inl ⟨rfl,t,D2,rfl⟩)))),hl.setb k (hl.bd k hk),by omega⟩
 ·obtain⟨F,s2,q3,hF,D3⟩:=genAny_f l σ (by omega)
  exact⟨_,_,Or.inr (Or.inr (Or.inr (Or.inr (Or.inr (Or.inl ⟨rfl,F,D3,hF,rfl⟩))))),hl.setb k (nT hF (by decide)),by omega⟩
 ·obtain⟨t,s2,p2,q2,D2⟩:=nE l σ 4 4 rfl (by decide) (by decide) (by omega)
  exact⟨_,_,Or.inr (Or.inr (Or.inr (Or.inr (Or.inr (Or.inr (Or.inl ⟨rfl,t,p2,D2,rfl⟩)))))),⟨hl.fs,hl.bx,hl.ff,hl.qu,hl.bd,hl.fd,hl.qd⟩,by omega⟩
 ·exact⟨_,_,Or.inr (Or.inr (Or.inr (Or.inr (Or.inr (Or.inr (Or.inr (Or.inl ⟨rfl,rfl,rfl⟩))))))),⟨hl.fs,hl.bx,hl.ff,hl.qu,hl.bd,hl.fd,hl.qd⟩,by omega⟩
 ·obtain⟨F,s2,q3,hF,D3⟩:=genAny_f l σ (by omega)
  exact⟨_,_,Or.inr (Or.inr (Or.inr (Or.inr (Or.inr (Or.inr (Or.inr (Or.inr (Or.inl ⟨rfl,F,D3,hF,rfl⟩)))))))),⟨hl.fs,hl.bx,by have:=hb.c;show (H.ff++[F]).length≤_;simp;omega,hl.qu,hl.bd,le_snoc5 hl.fd (nT hF (by decide)),hl.qd⟩,by omega⟩
 ·obtain⟨t,s2,p2,q2,D2⟩:=nE l σ 15 15 rfl (by decide) (by decide) (by omega)
  obtain⟨t2,s3,p3,q4,D4⟩:=nE l s2 3 3 rfl (by decide) (by decide) (by omega)
  obtain⟨t3,s4,p5,q5,D5⟩:=nE l s3 12 12 rfl (by decide) (by decide) (by omega)
  obtain⟨F,s5,q3,hF,D3⟩:=genAny_f l s4 (by omega)
  exact⟨_,_,Or.inr (Or.inr (Or.inr (Or.inr (Or.inr (Or.inr (Or.inr (Or.inr (Or.inr (Or.inl ⟨rfl,t,t2,t3,s2,s3,s4,F,p3,D2,D4,D5,D3,hF,rfl⟩))))))))),⟨hl.fs,hl.bx,hl.ff,by have:=hb.q;show (H.qu++[_]).length≤_;simp;omega,hl.bd,hl.fd,le_snoc8 hl.qd (nT hF (by decide))⟩,by omega⟩
 ·obtain⟨t,s2,p2,q2,D2⟩:=nE l σ 4 4 rfl (by decide) (by decide) (by omega)
  exact⟨_,_,Or.inr (Or.inr (Or.inr (Or.inr (Or.inr (Or.inr (Or.inr (Or.inr (Or.inr (Or.inr (Or.inl ⟨rfl,t,D2,rfl⟩)))))))))),hl.setb k (hl.bd k hk),by omega⟩
 ·exact⟨_,_,Or.inr (Or.inr (Or.inr (Or.inr (Or.inr (Or.inr (Or.inr (Or.inr (Or.inr (Or.inr (Or.inr (⟨rfl,rfl,rfl⟩))))))))))),⟨hl.fs,hl.bx,hl.ff,hl.qu,hl.bd,hl.fd,hl.qd⟩,by omega⟩
theorem rs_one {W:World} {B E sz g n k n2:Nat} {xs ys:List Value} (h1:W.ownsRow B E sz (sL (some ⟨g,0,none⟩) n k) n xs) (h2:W.ownsRow B E sz (sL (some ⟨g,0,none⟩) n2 k) n2 ys) (hn:n=n2):xs=ys:=by
 subst hn;rcases h1.2 with⟨e,_⟩|⟨g1,c1,cur,hv,_,hg,_,_,_,ht⟩
 ·cases e
 cases hv
 rcases h2.2 with⟨e,_⟩|⟨g2,c2,cur2,hv2,_,hg2,_,_,_,ht2⟩
 ·cases e
 cases hv2
 rw[hg] at hg2
 cases hg2
 rw[← ht,← ht2]
def spO (w0 w:World) (b:Nat) (a:Option Addr) (n cap:Nat) (l:List Nat) (κ:Nat→Nat) (H:Ho) (τ:Sg) (o:Ending) (w':World):Prop:=∃ s κ',o = rT (aG (hoL H s).toArray)∧hG κ' H s w'∧srcF w0 b a n cap l τ w'∧mvS b κ w κ' w'
theorem spoil_f (l:List Nat) (σ:Sg) (H:Ho) (hb:bdH H) (hi:σ.1+400≤1000000000):∃ (H':Ho) (τ:Sg),H'.le 1048576∧τ.1≤σ.1+50∧Hid (∀ (w0 w:World) (b:Nat) (a:Option Addr) (n cap:Nat) (κ:Nat→Nat) (s:Sl),srcF w0 b a n cap l σ w→hG κ H s w→(∀ x,x≤b→κ x=0)→Calls Tp 168 #[pT (some ⟨b,0,none⟩),aG (hoL H s).toArray] w (spO w0 w b a n cap l κ H' τ)):=by
 obtain⟨k,s1,hk,q1,D0⟩:=nE l σ H.bx.length (H.bx.length:Int) rfl (by have:=hb.b;omega) (by have:=hb.b;omega) (by omega)
 obtain⟨v,s2,hv,q2,D1⟩:=nE l s1 12 12 rfl (by decide) (by decide) (by omega)
 obtain⟨H',τ,hR,hle,hτ⟩:=spR_ex l H hb k hk v hv s2 (by omega)
 refine⟨H',τ,hle,by omega,fun w0 w b a n cap κ s hs hg hz=>?_⟩
 have F0:Hid _:=fS.new hs hg hz z10 (hoL H s) 39
 have HB:=hidG hb
 have hln:(s.n2:Int)=(H.bx.length:Int):=by rw[hg.n2]
 clear hs hg hz hb hle hτ q1 q2 hv;go_enter Tryz.func168,Tryz.ntmps168
 go_upto_region 1 with fail
 generalize hV:World.alloc (World.alloc w _) _=v0 at *;clear hV;have F0:Hid (fS 39 z10 w0 w b a n cap l σ κ κ H s (hoL H s) v0):=F0
 have x5:=F0.out.p.cell 5 _ rfl
 have D0:dr 60 [I J (s.n2:Int)] l σ (I J (k:Int)) s1:=by rw[hln];exact D0
 clear hln;go_wp2_with fail;refine (fS.call D0 F0.out).mono ?_
 rintro o w1 ⟨rfl,F1⟩;clear F0 D0 x5;go_wp2_with fail;refine (fS.call D1 F1.out).mono ?_
 rintro o w2 ⟨rfl,F2⟩;clear F1 D1;rcases hR with⟨rfl,rfl,rfl⟩|⟨rfl,rfl,rfl⟩|⟨rfl,rfl,rfl⟩|⟨rfl,rfl,rfl⟩|⟨rfl,t,D2,rfl⟩|⟨rfl,F,D3,hF,rfl⟩|⟨rfl,t,ht,D2,rfl⟩|⟨rfl,rfl,rfl⟩|⟨rfl,F,D3,hF,rfl⟩|⟨rfl,t1,t2,t3,g1,g2,g3,F,ht2,D2,D4,D5,D3,hF,rfl⟩|⟨rfl,t,D2,rfl⟩|⟨rfl,rfl,rfl⟩
 ·obtain⟨c,hc⟩ : ∃ c,IntKind.i64.wrap (H.c0+1)=c:=⟨_,rfl⟩
  have HC:=hidG hc
  have y:=F2.out.p.cell 0 _ rfl
  have f:=F2.out.p.free 0
  have F3:Hid (fS 39 z10 w0 w b a n cap l _ κ κ { H with c0:=c } s (hoL { H with c0:=c } s) (w2.setCell ⟨w.heap.size,0,none⟩ (I J c))):=(F2.out.set 0 (I J c)).host ⟨rfl,rfl,rfl,rfl⟩
  go_wp2_with (first | (refine fS.ldL F3.out ?_) | (refine fS.rtL F3.out rfl ?_;intro w8 b8 G8))
  refine bC Tryz.results168 (lv39 b8) ?_
  rw[HC.out]
  exact⟨_,_,rfl,G8.out⟩
 ·have y:=F2.out.p.cell 2 _ rfl
  have f:=F2.out.p.free 2
  have F3:Hid (fS 39 z10 w0 w b a n cap l _ κ κ { H with c2:=2 } s (hoL { H with c2:=2 } s) (w2.setCell ⟨w.heap.size,2,none⟩ (I J 2))):=(F2.out.set 2 (I J 2)).host ⟨rfl,rfl,rfl,rfl⟩
  go_wp2_with (first | (refine fS.ldL F3.out ?_) | (refine fS.rtL F3.out rfl ?_;intro w8 b8 G8))
  exact bC Tryz.results168 (lv39 b8) ⟨_,_,rfl,G8.out⟩
 ·obtain⟨gf,e1,_,ho,_⟩:=F2.out.g.f
  have F3:=hidG (F2.out.below ((bW _ _).alloc (nR _) (.cells #[bO false,I .u32 2048,I .u32 0] 164)))
  have y4:(w2.alloc (.cells #[bO false,I .u32 2048,I .u32 0] 164)).cell? ⟨w.heap.size,4,none⟩=some (sL (some ⟨gf,0,none⟩) s.n1 s.k1):=by rw[← e1];exact F3.out.p.cell 4 _ rfl
  have x4:w2.cell? ⟨w.heap.size,4,none⟩=some (sL (some ⟨gf,0,none⟩) s.n1 s.k1):=by rw[← e1];exact F2.out.p.cell 4 _ rfl
  have HO:Hid ((w2.alloc (.cells #[bO false,I .u32 2048,I .u32 0] 164)).ownsRow 0 164 3 (sL (some ⟨gf,0,none⟩) s.n1 s.k1) s.n1 (c3 H.fs)):=ho.alloc _
  have HE:=hidG e1
  have hn1:s.n1≤100000000:=by rw[F2.out.g.is.fs.len];have:=HB.out.f;omega
  clear ho e1;go_upto_region 27 with (first | (at_builtin;refine app_rec rfl (.tmp 28) (.tmp 30) 34 164 _ 3 12 Tryz.info164 Tryz.underlying34 rfl (by decide) (by decide) rfl 0 gf s.n1 s.k1 (c3 H.fs) rfl HO.out w2.heap.size [bO false,I .u32 2048,I .u32 0] rfl rfl (blk.new w2 [bO false,I .u32 2048,I .u32 0] 164) (by simp[Value.oneCell']) hn1 (nZ _) ?_;intro g' k' w6 ho6 hg6 hg' hB6;have F6:=hidG (F3.out.mv (F3.out.g.filter HE.out ⟨false,2048,0⟩ ho6 hg6 hg'));have y6:=F6.out.p.cell 4 _ rfl;have f6:=F6.out.p.free 4;have F7:Hid (fS 39 z10 w0 w b a n cap l _ κ _ { H with fs:=H.fs++[⟨false,2048,0⟩] } { s with a1:=some ⟨g',0,none⟩,n1:=s.n1+1,k1:=k' } (hoL { H with fs:=H.fs++[⟨false,2048,0⟩] } { s with a1:=some ⟨g',0,none⟩,n1:=s.n1+1,k1:=k' }) (w6.setCell ⟨w.heap.size,4,none⟩ (sL (some ⟨g',0,none⟩) (s.n1+1) k'))):=F6.out.set 4 _;clear ho6 hg6 hg' hB6))
  go_wp2_with (first | (refine fS.ldL F7.out ?_) | (refine fS.rtL F7.out rfl ?_;intro w8 b8 G8))
  exact bC Tryz.results168 (lv39 b8) ⟨_,_,rfl,G8.out⟩
 ·obtain⟨gb,hs0,e2,kb,hx,_⟩:=F2.out.g.x
  have x5:w2.cell? ⟨w.heap.size,5,none⟩=some (sL (some ⟨gb,0,none⟩) s.n2 s.k2):=by rw[← e2];exact F2.out.p.cell 5 _ rfl
  have hcp:=hx.cap
  have hkn:k<s.n2:=by have:=hx.len;omega
  have HE:=hidG e2
  obtain⟨hd0,hrg,hrf,hp1,hp2⟩:=F2.out.g.part e2 hk
  clear hx kb e2;have y1:=hrg 1 _ rfl
  have f1:=(hrf (k*8+1) (by omega)).2
  obtain⟨c,hc⟩ : ∃ c,IntKind.i64.wrap (H.bx[k].y+1)=c:=⟨_,rfl⟩
  have G:=hp1 1 [I J c] { H.bx[k] with y:=c } (by simp) rfl (by intro u hu;match u,hu with | 0,_=>rfl) (by intro u hu h;match u,hu with | 0,_ | 1,_ | 2,_ | 3,_ | 4,_ | 5,_ | 6,_ | 7,_=>first | rfl | (simp at h))
  have F3:Hid (fS 39 z10 w0 w b a n cap l _ κ κ { H with bx:=H.bx.set k { H.bx[k] with y:=c } } s (hoL { H with bx:=H.bx.set k { H.bx[k] with y:=c } } s) (w2.setCell ⟨gb,k*8+1,none⟩ (I J c))):=F2.out.mv G
  have HC:=hidG hc
  clear hp1 hp2 hrg hrf G;go_wp2_with (first | (refine fS.ldL F3.out ?_) | (refine fS.rtL F3.out rfl ?_;intro w8 b8 G8))
  refine bC Tryz.results168 (lv39 b8) ?_
  rw[HC.out]
  exact⟨_,_,rfl,G8.out⟩
 ·obtain⟨gb,hs0,e2,kb,hx,_⟩:=F2.out.g.x
  have x5:w2.cell? ⟨w.heap.size,5,none⟩=some (sL (some ⟨gb,0,none⟩) s.n2 s.k2):=by rw[← e2];exact F2.out.p.cell 5 _ rfl
  have hcp:=hx.cap
  have hkn:k<s.n2:=by have:=hx.len;omega
  have HE:=hidG e2
  obtain⟨hd0,hrg,hrf,hp1,hp2⟩:=F2.out.g.part e2 hk
  clear hx kb e2;clear hrg hp1 hp2 hrf hcp;go_upto_region 12 with fail
  refine wp_region_held (S:=fun X=>blk X w.heap.size (hoL H s) 39) (by kernel_rfl) ?_
  have F3:=hidG (F2.out.below (bW _ _).drew)
  change wpAnyH Tp _ _ _ _ _ _ _ (World.drew w2)
  generalize World.drew w2=v1 at *;clear F2 x5;have hS:=F3.out.p
  refine tk 0 ?_
  refine tk 1 ?_ (hy:=fun W hW=>by (have x5:=hW.cell 5 _ rfl;rw[HE.out] at x5;go_simp;try rfl))
  refine tk 2 ?_
  refine tk 3 ?_
  refine al 4 fun K2 hK2=>?_
  go_simp;refine (fS.call D2 F3.out).mono ?_
  rintro o w3 ⟨rfl,F4⟩;go_wp2_with fail;refine hK2.out _ _ F4.out.p (fun hS2=>?_)
  clear hK2 K2 hS;have hS:=hS2
  clear hS2;refine tk 5 ?_
  refine tk 6 ?_
  refine al 7 fun K2 hK2=>?_
  obtain⟨gb',hs4,e4,_,hx4,_⟩:=F4.out.g.x
  obtain rfl:gb'=gb:=by rw[HE.out] at e4;cases e4;rfl
  obtain⟨hd0,hrg,hrf,hp1,hp2⟩:=F4.out.g.part HE.out hk
  have y1:w3.cell? ⟨gb',k*8,none⟩=_:=hrg 0 _ rfl
  have f1:w3.frozen? ⟨gb',k*8,none⟩=false:=(hrf (k*8+0) (by omega)).2
  have G:=hp1 0 [I J (t:Int)] { H.bx[k] with x:=(t:Int) } (by simp) rfl (by intro u hu;match u,hu with | 0,_=>rfl) (by intro u hu h;match u,hu with | 0,_ | 1,_ | 2,_ | 3,_ | 4,_ | 5,_ | 6,_ | 7,_=>first | rfl | (simp at h))
  have F5:Hid (fS 39 z10 w0 w b a n cap l _ κ κ { H with bx:=H.bx.set k { H.bx[k] with x:=(t:Int) } } s (hoL { H with bx:=H.bx.set k { H.bx[k] with x:=(t:Int) } } s) (w3.setCell ⟨gb',k*8,none⟩ (I J (t:Int)))):=F4.out.mv G
  clear hp1 hp2 hrg hrf G hx4 e4;go_simp;refine hK2.out _ _ F5.out.p (fun _=>?_)
  refine wpAnyH_done (by kernel_rfl) ?_ _
  try simp only[Act.put]
  go_wp2_with (first | (refine fS.ldL F5.out ?_) | (refine fS.rtL F5.out rfl ?_;intro w8 b8 G8))
  exact bC Tryz.results168 (lv39 b8) ⟨_,_,rfl,G8.out⟩
 ·obtain⟨gb,hs0,e2,kb,hx,_⟩:=F2.out.g.x
  have x5:w2.cell? ⟨w.heap.size,5,none⟩=some (sL (some ⟨gb,0,none⟩) s.n2 s.k2):=by rw[← e2];exact F2.out.p.cell 5 _ rfl
  have hcp:=hx.cap
  have hkn:k<s.n2:=by have:=hx.len;omega
  have HE:=hidG e2
  obtain⟨hd0,hrg,hrf,hp1,hp2⟩:=F2.out.g.part e2 hk
  clear hx kb e2;clear hrg hp1 hp2 hrf hcp;go_upto_region 14 with fail
  refine wp_region_held (S:=fun X=>blk X w.heap.size (hoL H s) 39) (by kernel_rfl) ?_
  have F3:=hidG (F2.out.below (bW _ _).drew)
  change wpAnyH Tp _ _ _ _ _ _ _ (World.drew w2)
  generalize World.drew w2=v1 at *;clear F2 x5;have hS:=F3.out.p
  refine tk 0 ?_
  refine tk 1 ?_ (hy:=fun W hW=>by (have x5:=hW.cell 5 _ rfl;rw[HE.out] at x5;go_simp;try rfl))
  refine tk 2 ?_
  refine tk 3 ?_
  refine al 4 fun K2 hK2=>?_
  go_simp;refine (fS.any D3 2 F3.out).mono ?_
  rintro o w3 ⟨gd,kd,κ3,rfl,F4,HD⟩;go_wp2_with fail;refine hK2.out _ _ F4.out.p (fun hS2=>?_)
  clear hK2 K2 hS;have hS:=hS2
  clear hS2;refine tk 5 ?_
  refine tk 6 ?_
  refine al 7 fun K2 hK2=>?_
  obtain⟨gb',hs4,e4,_,hx4,_⟩:=F4.out.g.x
  obtain rfl:gb'=gb:=by rw[HE.out] at e4;cases e4;rfl
  obtain⟨hd0,hrg,hrf,hp1,hp2⟩:=F4.out.g.part HE.out hk
  have hgd:gd≠gb':=by have:=HD.out.2.2.2;have:=F3.out.g.sm gb' (by have:=F3.out.g.x;obtain⟨g1,_,e9,k9,_⟩:=this;rw[HE.out] at e9;cases e9;omega);omega
  have G:=hp2 3 [bO F.e,I .u32 (F.i:Int),bO F.r,I J F.d,sL (some ⟨gd,0,none⟩) F.l.length kd] ⟨H.bx[k].x,H.bx[k].y,H.bx[k].z,F.e,F.i,F.r,F.d,F.l⟩ gd F.l.length kd (by simp) HD.out.1 HD.out.2.1 HD.out.2.2.1 hgd (by intro u hu;match u,hu with | 0,_ | 1,_ | 2,_ | 3,_ | 4,_=>rfl) (by intro u hu h;match u,hu with | 0,_ | 1,_ | 2,_ | 3,_ | 4,_ | 5,_ | 6,_ | 7,_=>first | rfl | (simp at h))
  have F5:Hid (fS 39 z10 w0 w b a n cap l _ κ κ3 { H with bx:=H.bx.set k ⟨H.bx[k].x,H.bx[k].y,H.bx[k].z,F.e,F.i,F.r,F.d,F.l⟩ } s (hoL { H with bx:=H.bx.set k ⟨H.bx[k].x,H.bx[k].y,H.bx[k].z,F.e,F.i,F.r,F.d,F.l⟩ } s) (w3.setCells gb' (k*8+3) [bO F.e,I .u32 (F.i:Int),bO F.r,I J F.d,sL (some ⟨gd,0,none⟩) F.l.length kd])):=F4.out.mv G
  rw[if_pos (by rfl)]
  refine wp_store_mid 55 _ _ rfl gb' (k*8+3) [bO F.e,I .u32 (F.i:Int),bO F.r,I J F.d,sL (some ⟨gd,0,none⟩) F.l.length kd].toArray rfl rfl (fun j hj=>?_) sz93 (all_oneCell_toArray (by simp[Value.oneCell'])) ?_
  ·obtain⟨⟨q1,q2⟩,q3⟩:=hrf (k*8+3+j) (by simp at hj;omega)
   exact⟨by rw[q2];rfl,q3⟩
  refine hK2.out _ _ F5.out.p (fun _=>?_)
  refine wpAnyH_done (by kernel_rfl) ?_ _
  try simp only[Act.put]
  generalize w3.setCells gb' (k*8+3) [bO F.e,I .u32 (F.i:Int),bO F.r,I J F.d,sL (some ⟨gd,0,none⟩) F.l.length kd]=w4 at *;go_wp2_with (first | (refine fS.ldL F5.out ?_) | (refine fS.rtL F5.out rfl ?_;intro w8 b8 G8))
  exact bC Tryz.results168 (lv39 b8) ⟨_,_,rfl,G8.out⟩
 ·have hwr:IntKind.i64.wrap ((t:Int)-1)=(t:Int)-1:=by rw[IntKind.wrap_i64];omega
  go_wp2_with fail;refine (fS.call D2 F2.out).mono ?_
  rintro o w3 ⟨rfl,F3⟩;clear F2;have F2:=F3
  clear F3;have y:=F2.out.p.cell 9 _ rfl
  have f:=F2.out.p.free 9
  have F3:Hid (fS 39 z10 w0 w b a n cap l _ κ κ { H with st:=(t:Int)-1 } s (hoL { H with st:=(t:Int)-1 } s) (w3.setCell ⟨w.heap.size,9,none⟩ (I J ((t:Int)-1)))):=(F2.out.set 9 (I J ((t:Int)-1))).host ⟨rfl,rfl,rfl,rfl⟩
  go_wp2_with (first | (refine fS.ldL F3.out ?_) | (refine fS.rtL F3.out rfl ?_;intro w8 b8 G8))
  exact bC Tryz.results168 (lv39 b8) ⟨_,_,rfl,G8.out⟩
 ·have y:=F2.out.p.cell 8 _ rfl
  have f:=F2.out.p.free 8
  have F3:Hid (fS 39 z10 w0 w b a n cap l _ κ κ { H with lo:=-1 } s (hoL { H with lo:=-1 } s) (w2.setCell ⟨w.heap.size,8,none⟩ (I J (-1)))):=(F2.out.set 8 (I J (-1))).host ⟨rfl,rfl,rfl,rfl⟩
  go_wp2_with (first | (refine fS.ldL F3.out ?_) | (refine fS.rtL F3.out rfl ?_;intro w8 b8 G8))
  exact bC Tryz.results168 (lv39 b8) ⟨_,_,rfl,G8.out⟩
 ·obtain⟨gq,off,hs,e3,kq,_⟩:=F2.out.g.r
  have HE3:Hid (s.a3=some ⟨gq,off,none⟩∧gq<w2.heap.size∧s.n3≤100000):=⟨e3,F2.out.g.sm gq (by omega),by rw[F2.out.g.n3];have:=HB.out.c;omega⟩
  have F3:=hidG (F2.out.below (bW _ _).drew)
  have x6:=F2.out.p.cell 6 _ rfl
  rw[e3] at x6
  clear e3 kq;go_upto_region 20 with fail
  go_region_law
   (first
    | (go_simp;go_at_call 205;refine (fS.any D3 3 F3.out).mono ?_;rintro o v1 ⟨gd,kd,κ2,rfl,F4,HD⟩;have F5:Hid (fS 39 z10 w0 w b a n cap l _ κ κ2 H s (hoL H s) (v1.alloc (.cells #[bO F.e,I .u32 (F.i:Int),bO F.r,I J F.d,sL (some ⟨gd,0,none⟩) F.l.length kd] 55))):=F4.out.below ((bW _ _).alloc (nR _) _);have HD1:Hid (iB (v1.alloc (.cells #[bO F.e,I .u32 (F.i:Int),bO F.r,I J F.d,sL (some ⟨gd,0,none⟩) F.l.length kd] 55)) (some ⟨gd,0,none⟩) F.l.length kd F.l∧gd<(v1.alloc (.cells #[bO F.e,I .u32 (F.i:Int),bO F.r,I J F.d,sL (some ⟨gd,0,none⟩) F.l.length kd] 55)).heap.size∧κ2 gd=3∧gd≠gq):=⟨HD.out.1.below ((bW _ _).alloc (nR _) _),(by have:=HD.out.2.1;simp;omega),HD.out.2.2.1,(by have:=HD.out.2.2.2;have:=HE3.out.2.1;have h0:w2.drew.heap.size=w2.heap.size:=rfl;omega)⟩;have HNB:Hid ((v1.alloc (.cells #[bO F.e,I .u32 (F.i:Int),bO F.r,I J F.d,sL (some ⟨gd,0,none⟩) F.l.length kd] 55)).heap[v1.heap.size]?=some (.cells #[bO F.e,I .u32 (F.i:Int),bO F.r,I J F.d,sL (some ⟨gd,0,none⟩) F.l.length kd] 55)):=heap_alloc_new v1 _;have y6:=F4.out.p.cell 6 _ rfl;have y7:=F5.out.p.cell 6 _ rfl;rw[HE3.out.1] at y6 y7;go_wp2_with fail)
    | (refine wp_appH F5.out.g HE3.out.1 F HD1.out.1 HD1.out.2 (.tmp 74) (.tmp 77) v1.heap.size HNB.out HE3.out.2.2 ?_;intro g' off' k' κ' w6 G6;have F6:=hidG (F5.out.mv G6.out);have xq:=F6.out.p.cell 6 _ rfl;have fq:=F6.out.p.free 6;have F7:Hid (fS 39 z10 w0 w b a n cap l _ κ κ' (fHo H (H.ff++[F])) (fSl s g' off' (s.n3+1) k') (hoL (fHo H (H.ff++[F])) (fSl s g' off' (s.n3+1) k')) (w6.setCell ⟨w.heap.size,6,none⟩ (sL (some ⟨g',off',none⟩) (s.n3+1) k'))):=F6.out.set 6 _))
  all_goals
   go_wp2_with (first | (refine fS.ldL F7.out ?_) | (refine fS.rtL F7.out rfl ?_;intro w8 b8 G8))
   exact bC Tryz.results168 (lv39 b8) ⟨_,_,rfl,G8.out⟩
 ·obtain⟨g4,rs,e4,kq,ho,hm,hl,_⟩:=F2.out.g.q
  have HE4:Hid (s.a4=some ⟨g4,0,none⟩∧g4<w2.heap.size∧s.n4≤100000000∧rs.length=s.n4):=⟨e4,F2.out.g.sm g4 (by omega),by rw[F2.out.g.n4];have:=HB.out.q;omega,hl⟩
  have hwr:IntKind.i64.wrap ((t2:Int)-1)=(t2:Int)-1:=by rw[IntKind.wrap_i64];omega
  have F3:=hidG (F2.out.below (bW _ _).drew)
  have x7:=F2.out.p.cell 7 _ rfl
  rw[e4] at x7
  clear e4 kq ho hm hl;go_upto_region 22 with fail
  refine wp_region_held (S:=fun _=>True) (by kernel_rfl) ?_
  change wpAnyH Tp _ _ _ _ _ _ _ (World.drew w2)
  generalize World.drew w2=v1 at *;clear F2 x7;have hS:True:=trivial
  refine tk 0 ?_
  refine tk 2 ?_
  refine tk 4 ?_
  refine tk 7 ?_
  refine tk 9 ?_
  refine al2 1 3 (fun K2 hK2=>?_) (fun K2 hK2=>?_)
  have y:=F3.out.p.cell 7 _ rfl
  rw[HE4.out.1] at y
  go_simp;refine hK2.out _ _ trivial (fun _=>?_)
  clear hK2 K2 y;refine al 3 fun K2 hK2=>?_
  go_simp;refine (fS.call D2 F3.out).mono ?_
  rintro o x0 ⟨rfl,F4⟩;focus go_wp2_with fail
  refine hK2.out _ _ trivial (fun _=>?_)
  clear hK2 K2;refine al 5 fun K2 hK2=>?_
  go_simp;refine (fS.call D4 F4.out).mono ?_
  rintro o x1 ⟨rfl,F5⟩;focus go_wp2_with fail
  refine hK2.out _ _ trivial (fun _=>?_)
  clear hK2 K2;refine tk 6 ?_
  refine al 8 fun K2 hK2=>?_
  go_simp;refine (fS.call D5 F5.out).mono ?_
  rintro o x2 ⟨rfl,F6⟩;focus go_wp2_with fail
  refine hK2.out _ _ trivial (fun _=>?_)
  clear hK2 K2;refine al 10 fun K2 hK2=>?_
  go_simp;refine (fS.any D3 4 F6.out).mono ?_
  rintro o v4 ⟨gd,kd,κ4,rfl,F7,HD⟩;have HG6:Hid (g4<x2.heap.size):=by
   obtain⟨g9,_,e9,k9,_⟩:=F6.out.g.q
   rw[HE4.out.1] at e9
   cases e9
   exact F6.out.g.sm g4 (by omega)
  focus go_wp2_with fail
  refine hK2.out _ _ trivial (fun _=>?_)
  clear hK2 K2;refine tk 11 ?_
  refine al 12 fun K2 hK2=>?_
  go_simp;have F8:Hid (fS 39 z10 w0 w b a n cap l _ κ κ4 H s (hoL H s) (v4.alloc (.cells #[I J (t1:Int),I J ((t2:Int)-1),I J (t3:Int),bO F.e,I .u32 (F.i:Int),bO F.r,I J F.d,sL (some ⟨gd,0,none⟩) F.l.length kd] 67))):=F7.out.below ((bW _ _).alloc (nR _) _)
  refine hK2.out _ _ trivial (fun _=>?_)
  clear hK2 K2
  rotate_left
  go_simp;refine (fS.call D2 F3.out).mono ?_
  rintro o x0 ⟨rfl,F4⟩;focus go_wp2_with fail
  refine hK2.out _ _ trivial (fun _=>?_)
  clear hK2 K2;refine al2 1 5 (fun K2 hK2=>?_) (fun K2 hK2=>?_)
  have y:=F4.out.p.cell 7 _ rfl
  rw[HE4.out.1] at y
  go_simp;refine hK2.out _ _ trivial (fun _=>?_)
  clear hK2 K2 y;refine al 5 fun K2 hK2=>?_
  go_simp;refine (fS.call D4 F4.out).mono ?_
  rintro o x1 ⟨rfl,F5⟩;focus go_wp2_with fail
  refine hK2.out _ _ trivial (fun _=>?_)
  clear hK2 K2;refine tk 6 ?_
  refine al 8 fun K2 hK2=>?_
  go_simp;refine (fS.call D5 F5.out).mono ?_
  rintro o x2 ⟨rfl,F6⟩;focus go_wp2_with fail
  refine hK2.out _ _ trivial (fun _=>?_)
  clear hK2 K2;refine al 10 fun K2 hK2=>?_
  go_simp;refine (fS.any D3 4 F6.out).mono ?_
  rintro o v4 ⟨gd,kd,κ4,rfl,F7,HD⟩;have HG6:Hid (g4<x2.heap.size):=by
   obtain⟨g9,_,e9,k9,_⟩:=F6.out.g.q
   rw[HE4.out.1] at e9
   cases e9
   exact F6.out.g.sm g4 (by omega)
  focus go_wp2_with fail
  refine hK2.out _ _ trivial (fun _=>?_)
  clear hK2 K2;refine tk 11 ?_
  refine al 12 fun K2 hK2=>?_
  go_simp;have F8:Hid (fS 39 z10 w0 w b a n cap l _ κ κ4 H s (hoL H s) (v4.alloc (.cells #[I J (t1:Int),I J ((t2:Int)-1),I J (t3:Int),bO F.e,I .u32 (F.i:Int),bO F.r,I J F.d,sL (some ⟨gd,0,none⟩) F.l.length kd] 67))):=F7.out.below ((bW _ _).alloc (nR _) _)
  refine hK2.out _ _ trivial (fun _=>?_)
  clear hK2 K2
  rotate_left
  go_simp;refine (fS.call D4 F4.out).mono ?_
  rintro o x1 ⟨rfl,F5⟩;focus go_wp2_with fail
  refine hK2.out _ _ trivial (fun _=>?_)
  clear hK2 K2;refine tk 6 ?_
  refine al2 1 8 (fun K2 hK2=>?_) (fun K2 hK2=>?_)
  have y:=F5.out.p.cell 7 _ rfl
  rw[HE4.out.1] at y
  go_simp;refine hK2.out _ _ trivial (fun _=>?_)
  clear hK2 K2 y;refine al 8 fun K2 hK2=>?_
  go_simp;refine (fS.call D5 F5.out).mono ?_
  rintro o x2 ⟨rfl,F6⟩;focus go_wp2_with fail
  refine hK2.out _ _ trivial (fun _=>?_)
  clear hK2 K2;refine al 10 fun K2 hK2=>?_
  go_simp;refine (fS.any D3 4 F6.out).mono ?_
  rintro o v4 ⟨gd,kd,κ4,rfl,F7,HD⟩;have HG6:Hid (g4<x2.heap.size):=by
   obtain⟨g9,_,e9,k9,_⟩:=F6.out.g.q
   rw[HE4.out.1] at e9
   cases e9
   exact F6.out.g.sm g4 (by omega)
  focus go_wp2_with fail
  refine hK2.out _ _ trivial (fun _=>?_)
  clear hK2 K2;refine tk 11 ?_
  refine al 12 fun K2 hK2=>?_
  go_simp;have F8:Hid (fS 39 z10 w0 w b a n cap l _ κ κ4 H s (hoL H s) (v4.alloc (.cells #[I J (t1:Int),I J ((t2:Int)-1),I J (t3:Int),bO F.e,I .u32 (F.i:Int),bO F.r,I J F.d,sL (some ⟨gd,0,none⟩) F.l.length kd] 67))):=F7.out.below ((bW _ _).alloc (nR _) _)
  refine hK2.out _ _ trivial (fun _=>?_)
  clear hK2 K2
  rotate_left
  go_simp;refine (fS.call D5 F5.out).mono ?_
  rintro o x2 ⟨rfl,F6⟩;focus go_wp2_with fail
  refine hK2.out _ _ trivial (fun _=>?_)
  clear hK2 K2;refine al2 1 10 (fun K2 hK2=>?_) (fun K2 hK2=>?_)
  have y:=F6.out.p.cell 7 _ rfl
  rw[HE4.out.1] at y
  go_simp;refine hK2.out _ _ trivial (fun _=>?_)
  clear hK2 K2 y;refine al 10 fun K2 hK2=>?_
  go_simp;refine (fS.any D3 4 F6.out).mono ?_
  rintro o v4 ⟨gd,kd,κ4,rfl,F7,HD⟩;have HG6:Hid (g4<x2.heap.size):=by
   obtain⟨g9,_,e9,k9,_⟩:=F6.out.g.q
   rw[HE4.out.1] at e9
   cases e9
   exact F6.out.g.sm g4 (by omega)
  focus go_wp2_with fail
  refine hK2.out _ _ trivial (fun _=>?_)
  clear hK2 K2;refine tk 11 ?_
  refine al 12 fun K2 hK2=>?_
  go_simp;have F8:Hid (fS 39 z10 w0 w b a n cap l _ κ κ4 H s (hoL H s) (v4.alloc (.cells #[I J (t1:Int),I J ((t2:Int)-1),I J (t3:Int),bO F.e,I .u32 (F.i:Int),bO F.r,I J F.d,sL (some ⟨gd,0,none⟩) F.l.length kd] 67))):=F7.out.below ((bW _ _).alloc (nR _) _)
  refine hK2.out _ _ trivial (fun _=>?_)
  clear hK2 K2
  rotate_left
  go_simp;refine (fS.any D3 4 F6.out).mono ?_
  rintro o v4 ⟨gd,kd,κ4,rfl,F7,HD⟩;have HG6:Hid (g4<x2.heap.size):=by
   obtain⟨g9,_,e9,k9,_⟩:=F6.out.g.q
   rw[HE4.out.1] at e9
   cases e9
   exact F6.out.g.sm g4 (by omega)
  focus go_wp2_with fail
  refine hK2.out _ _ trivial (fun _=>?_)
  clear hK2 K2;refine tk 11 ?_
  refine al2 1 12 (fun K2 hK2=>?_) (fun K2 hK2=>?_)
  have y:=F7.out.p.cell 7 _ rfl
  rw[HE4.out.1] at y
  go_simp;refine hK2.out _ _ trivial (fun _=>?_)
  clear hK2 K2 y;refine al 12 fun K2 hK2=>?_
  go_simp;have F8:Hid (fS 39 z10 w0 w b a n cap l _ κ κ4 H s (hoL H s) (v4.alloc (.cells #[I J (t1:Int),I J ((t2:Int)-1),I J (t3:Int),bO F.e,I .u32 (F.i:Int),bO F.r,I J F.d,sL (some ⟨gd,0,none⟩) F.l.length kd] 67))):=F7.out.below ((bW _ _).alloc (nR _) _)
  refine hK2.out _ _ trivial (fun _=>?_)
  clear hK2 K2
  rotate_left
  go_simp;have F8:Hid (fS 39 z10 w0 w b a n cap l _ κ κ4 H s (hoL H s) (v4.alloc (.cells #[I J (t1:Int),I J ((t2:Int)-1),I J (t3:Int),bO F.e,I .u32 (F.i:Int),bO F.r,I J F.d,sL (some ⟨gd,0,none⟩) F.l.length kd] 67))):=F7.out.below ((bW _ _).alloc (nR _) _)
  refine hK2.out _ _ trivial (fun _=>?_)
  clear hK2 K2;refine al 1 fun K2 hK2=>?_
  have y:=F8.out.p.cell 7 _ rfl
  rw[HE4.out.1] at y
  go_simp;refine hK2.out _ _ trivial (fun _=>?_)
  clear hK2 K2 y
  all_goals
   refine al 13 fun K2 hK2=>?_
   rw[if_pos (by rfl)]
   obtain⟨g4',rs',e4',kq',ho',hm',hl',_⟩:=F8.out.g.q
   obtain rfl:g4'=g4:=by rw[HE4.out.1] at e4';cases e4';rfl
   refine wp_app_rec (.tmp 83) (.tmp 94) 37 67 _ 8 72 Tryz.info67 Tryz.underlying37 rfl (by decide) (by decide) (by rfl) 0 g4' s.n4 s.k4 (rs'.flatMap rc8.enc) (by rfl) (by have:=ho'.own;rw[hl'] at this;exact this) v4.heap.size [I J (t1:Int),I J ((t2:Int)-1),I J (t3:Int),bO F.e,I .u32 (F.i:Int),bO F.r,I J F.d,sL (some ⟨gd,0,none⟩) F.l.length kd] (by rfl) rfl (blk.new v4 [I J (t1:Int),I J ((t2:Int)-1),I J (t3:Int),bO F.e,I .u32 (F.i:Int),bO F.r,I J F.d,sL (some ⟨gd,0,none⟩) F.l.length kd] 67) (one8L _ _ _ _ _ _ _ _ _ _) HE4.out.2.2.1 (nZ _) ?_
   intro g' k' w6 ho6 hg6 hg' hB6;have hgd:gd≠g4':=by have:=HD.out.2.2.2;have:=HG6.out;omega
   have F9:=hidG (F8.out.mv (F8.out.g.event HE4.out.1 ⟨(t1:Int),(t2:Int)-1,(t3:Int),F.e,F.i,F.r,F.d,F.l⟩ (gd:=gd) (kd:=kd) (HD.out.1.below ((bW _ _).alloc (nR _) _)) ⟨by have:=HD.out.2.1;simp;omega,HD.out.2.2.1,hgd⟩ (g':=g') (k':=k') (fun rs2 q1 q2 q3=>by have:=rs_one q1.own ho'.own (by rw[q3,hl']);rw[this];exact ho6) hg6 hg'))
   clear ho6 hg6 hg' hB6 ho' hm' hl' kq' e4';refine hK2.out _ _ trivial (fun _=>?_)
   clear hK2 K2;simp only[aZ];refine tk 14 ?_
   refine al 15 fun K2 hK2=>?_
   have xq:=F9.out.p.cell 7 _ rfl
   have fq:=F9.out.p.free 7
   have F10:Hid (fS 39 z10 w0 w b a n cap l _ κ _ { H with qu:=H.qu++[⟨(t1:Int),(t2:Int)-1,(t3:Int),F.e,F.i,F.r,F.d,F.l⟩] } { s with a4:=some ⟨g',0,none⟩,n4:=s.n4+1,k4:=k' } (hoL { H with qu:=H.qu++[⟨(t1:Int),(t2:Int)-1,(t3:Int),F.e,F.i,F.r,F.d,F.l⟩] } { s with a4:=some ⟨g',0,none⟩,n4:=s.n4+1,k4:=k' }) (w6.setCell ⟨w.heap.size,7,none⟩ (sL (some ⟨g',0,none⟩) (s.n4+1) k'))):=F9.out.set 7 _
   go_simp;refine hK2.out _ _ trivial (fun _=>?_)
   clear hK2 K2;refine wpAnyH_done (by kernel_rfl) ?_ _
   try simp only[Act.put]
   clear xq fq F9;go_wp2_with (first | (refine fS.ldL F10.out ?_) | (refine fS.rtL F10.out rfl ?_;intro w8 b8 G8))
   exact bC Tryz.results168 (lv39 b8) ⟨_,_,rfl,G8.out⟩
 ·obtain⟨gb,hs0,e2,kb,hx,_⟩:=F2.out.g.x
  have x5:w2.cell? ⟨w.heap.size,5,none⟩=some (sL (some ⟨gb,0,none⟩) s.n2 s.k2):=by rw[← e2];exact F2.out.p.cell 5 _ rfl
  have hcp:=hx.cap
  have hkn:k<s.n2:=by have:=hx.len;omega
  have HE:=hidG e2
  obtain⟨hd0,hrg,hrf,hp1,hp2⟩:=F2.out.g.part e2 hk
  clear hx kb e2;clear hrg hp1 hp2 hrf hcp;go_upto_region 24 with fail
  refine wp_region_held (S:=fun X=>blk X w.heap.size (hoL H s) 39) (by kernel_rfl) ?_
  have F3:=hidG (F2.out.below (bW _ _).drew)
  change wpAnyH Tp _ _ _ _ _ _ _ (World.drew w2)
  generalize World.drew w2=v1 at *;clear F2 x5;have hS:=F3.out.p
  refine tk 0 ?_
  refine tk 1 ?_ (hy:=fun W hW=>by (have x5:=hW.cell 5 _ rfl;rw[HE.out] at x5;go_simp;try rfl))
  refine tk 2 ?_
  refine tk 3 ?_
  refine al 4 fun K2 hK2=>?_
  go_simp;refine (fS.call D2 F3.out).mono ?_
  rintro o w3 ⟨rfl,F4⟩;go_wp2_with fail;refine hK2.out _ _ F4.out.p (fun hS2=>?_)
  clear hK2 K2 hS;have hS:=hS2
  clear hS2;refine tk 5 ?_
  refine tk 6 ?_
  refine al 7 fun K2 hK2=>?_
  obtain⟨gb',hs4,e4,_,hx4,_⟩:=F4.out.g.x
  obtain rfl:gb'=gb:=by rw[HE.out] at e4;cases e4;rfl
  obtain⟨hd0,hrg,hrf,hp1,hp2⟩:=F4.out.g.part HE.out hk
  have y1:w3.cell? ⟨gb',k*8+2,none⟩=_:=hrg 2 _ rfl
  have f1:w3.frozen? ⟨gb',k*8+2,none⟩=false:=(hrf (k*8+2) (by omega)).2
  have G:=hp1 2 [I J (t:Int)] { H.bx[k] with z:=(t:Int) } (by simp) rfl (by intro u hu;match u,hu with | 0,_=>rfl) (by intro u hu h;match u,hu with | 0,_ | 1,_ | 2,_ | 3,_ | 4,_ | 5,_ | 6,_ | 7,_=>first | rfl | (simp at h))
  have F5:Hid (fS 39 z10 w0 w b a n cap l _ κ κ { H with bx:=H.bx.set k { H.bx[k] with z:=(t:Int) } } s (hoL { H with bx:=H.bx.set k { H.bx[k] with z:=(t:Int) } } s) (w3.setCell ⟨gb',k*8+2,none⟩ (I J (t:Int)))):=F4.out.mv G
  clear hp1 hp2 hrg hrf G hx4 e4;go_simp;refine hK2.out _ _ F5.out.p (fun _=>?_)
  refine wpAnyH_done (by kernel_rfl) ?_ _
  try simp only[Act.put]
  go_wp2_with (first | (refine fS.ldL F5.out ?_) | (refine fS.rtL F5.out rfl ?_;intro w8 b8 G8))
  exact bC Tryz.results168 (lv39 b8) ⟨_,_,rfl,G8.out⟩
 ·have y:=F2.out.p.cell 3 _ rfl
  have f:=F2.out.p.free 3
  have F3:Hid (fS 39 z10 w0 w b a n cap l _ κ κ { H with c3:=33 } s (hoL { H with c3:=33 } s) (w2.setCell ⟨w.heap.size,3,none⟩ (I J 33))):=(F2.out.set 3 (I J 33)).host ⟨rfl,rfl,rfl,rfl⟩
  go_wp2_with (first | (refine fS.ldL F3.out ?_) | (refine fS.rtL F3.out rfl ?_;intro w8 b8 G8))
  exact bC Tryz.results168 (lv39 b8) ⟨_,_,rfl,G8.out⟩
end Go.Proofs.YtkfcfigbgmbaiaaGreat
