import Derived.Test.YtkfcfigbgmbaiaaGreatK32
import Derived.Test.YtkfcfigbgmbaiaaGreatK24
import Derived.Test.YtkfcfigbgmbaiaaGreatK07
namespace Go.Proofs.YtkfcfigbgmbaiaaGreat
set_option maxRecDepth 20000
open Go.RowKit
set_option linter.unusedVariables false
set_option maxHeartbeats 16000000
open Go.Value renaming int→I,slice→sL,bool→bO,pointer→pT,agg→aG
open Go.IntKind renaming i64→J
open Go.Ending renaming returned→rT
open Go.Proofs.Tryz renaming prog→Tp
theorem hidG {P:Prop} (h:P):Hid P:=h
structure hG (κ:Nat→Nat) (H:Ho) (s:Sl) (W:World):Prop where
 f:∃ gf,s.a1=some ⟨gf,0,none⟩∧κ gf=1∧W.ownsRow 0 164 3 (sL (some ⟨gf,0,none⟩) s.n1 s.k1) s.n1 (c3 H.fs)∧isR3s W (some ⟨gf,0,none⟩) s.n1 s.k1 H.fs
 x:∃ gb hs,s.a2=some ⟨gb,0,none⟩∧κ gb=2∧bxR 0 W.heap.size gb s.n2 s.k2 H.bx hs W∧∀ j b,j<H.bx.length→(hs j).1=some ⟨b,0,none⟩→κ b=2
 r:∃ gq off hs,s.a3=some ⟨gq,off,none⟩∧κ gq=3∧rowF W gq (off+s.k3*5)∧ffR W gq off s.n3 s.k3 0 H.ff hs W.heap.size∧∀ j b,j<H.ff.length→(hs j).1=some ⟨b,0,none⟩→κ b=3
 q:∃ g4 rs,s.a4=some ⟨g4,0,none⟩∧κ g4=4∧ownG rc8 W 0 67 8 g4 s.k4 rs∧rs.map (·.1)=H.qu∧rs.length=s.n4∧∀ p ∈ rs,κ (rc8.gd p)=4
 sm:∀ x,κ x≠0→x<W.heap.size
structure mvH (κ:Nat→Nat) (W:World) (κ':Nat→Nat) (W':World):Prop where
 s:W.heap.size≤W'.heap.size
 c:∀ x,x<W.heap.size→κ' x=κ x
 k:∀ x,x<W.heap.size→κ x=0→W'.heap[x]?=W.heap[x]?
 o:W'.os=W.os∧W'.tape=W.tape∧W'.output=W.output
variable {κ κ' κ'' : Nat → Nat} {H : Ho} {s : Sl} {w W W' W'' : World}
theorem mvH.refl (κ:Nat→Nat) (W:World):mvH κ W κ W:=⟨nR _,fun _ _=>rfl,fun _ _ _=>rfl,rfl,rfl,rfl⟩
theorem mvH.trans (h:mvH κ W κ' W') (k:mvH κ' W' κ'' W''):mvH κ W κ'' W'':=
 ⟨nT h.s k.s,fun x hx=>(k.c x (nL hx h.s)).trans (h.c x hx),fun x hx h0=>(k.k x (nL hx h.s) (by rw[h.c x hx];exact h0)).trans (h.k x hx h0),k.o.1.trans h.o.1,k.o.2.1.trans h.o.2.1,k.o.2.2.trans h.o.2.2⟩
theorem mvH.of (hb:Below W.heap.size W W'):mvH κ W κ W':=⟨hb.size,fun _ _=>rfl,fun x hx _=>hb.block x hx,hb.os,hb.tape,hb.output⟩
theorem mvH.below (h:mvH κ W κ' W') (hb:Below W'.heap.size W' W''):mvH κ W κ' W'':=h.trans (mvH.of hb)
theorem mvH.blk {q:Nat} {L:List Value} {T:TypeId} (h:mvH κ W κ' W') (hq:blk W q L T) (h0:κ q=0):blk W' q L T:=hq.kept (h.k q hq.lt h0)
theorem mvH.out (h:mvH κ W κ' W') (hs:hG κ H s W):∀ x,κ' x=0→x<W.heap.size→κ x=0:=fun x h1 h2=>by rw[← h.c x h2];exact h1
theorem mvH.cells (h:mvH κ W κ' W') {q:Nat} (hq:W.heap.size≤q∨κ q≠0) (o:Nat) (vs:List Value):mvH κ W κ' (W'.setCells q o vs):=by
 have hb:=sW (B:=0) (nZ q) o vs (bW 0 W')
 refine⟨by rw[sZ];exact h.s,h.c,fun x hx h0=>(sO q x ?_ _ _ _).trans (h.k x hx h0),hb.os.trans h.o.1,hb.tape.trans h.o.2.1,hb.output.trans h.o.2.2⟩
 rintro rfl
 rcases hq with hq|hq
 ·omega
 ·exact hq h0
theorem bxR.keep {B T T' g n k:Nat} {bx:List R8} {hs:Nat→Hd} (h:bxR B T g n k bx hs W) (hg:W'.heap[g]?=W.heap[g]?) (hd:∀ j b,j<bx.length→(hs j).1=some ⟨b,0,none⟩→W'.heap[b]?=W.heap[b]?) (hT:T≤T'):bxR B T' g n k bx hs W':=
 ⟨h.len,h.cap,h.lo,nL h.hi hT,h.row.up hg,fun j hj=>rangeAt.up (h.rng j hj) hg,fun j hj=>by
  obtain⟨h1,h2⟩:=h.dat j hj
  rcases h2 with⟨e1,e2⟩|⟨b,e1,e2,e3,e4⟩
  ·exact⟨h1.none0 e2,Or.inl ⟨e1,e2⟩⟩
  ·refine⟨?_,Or.inr ⟨b,e1,e2,by omega,e4⟩⟩
   have:=hd j b hj e1
   rw[e1] at h1 ⊢
   exact h1.other this⟩
theorem ffR.mono {g off n k ks T T':Nat} {L:List R5} {hs:Nat→Hd} (h:ffR W g off n k ks L hs T) (hT:T≤T'):ffR W g off n k ks L hs T':=
 ⟨h.len,h.cap,h.rng,h.sp,fun j hj=>by obtain⟨h1,b,e1,e2,e3⟩:=h.dat j hj;exact⟨h1,b,e1,e2,by omega⟩,nL h.hi hT⟩
theorem ownG.keepC {E sz g k:Nat} {rs:List (R8 × Nat × Nat)} (h:ownG rc8 W 0 E sz g k rs) (hg:W'.heap[g]?=W.heap[g]?) (hd:∀ p ∈ rs,W'.heap[rc8.gd p]?=W.heap[rc8.gd p]?) (hz:W.heap.size≤W'.heap.size):ownG rc8 W' 0 E sz g k rs:=
 ⟨oK h.own hg,fun p hp=>by obtain⟨d1,d2,d3,d4⟩:=h.dat p hp;exact⟨d1.other (hd p hp),d2,d3,nL d4 hz⟩⟩
theorem hG.f_ (h:hG κ H s W) (hc:∀ x,κ x=1→κ' x=1∧W'.heap[x]?=W.heap[x]?):∃ gf,s.a1=some ⟨gf,0,none⟩∧κ' gf=1∧W'.ownsRow 0 164 3 (sL (some ⟨gf,0,none⟩) s.n1 s.k1) s.n1 (c3 H.fs)∧isR3s W' (some ⟨gf,0,none⟩) s.n1 s.k1 H.fs:=by
 obtain⟨gf,e,hk,h0,h1⟩:=h.f
 exact⟨gf,e,(hc gf hk).1,oK h0 (hc gf hk).2,h1.same (hc gf hk).2⟩
theorem hG.x_ (h:hG κ H s W) (hc:∀ x,κ x=2→κ' x=2∧W'.heap[x]?=W.heap[x]?) (hz:W.heap.size≤W'.heap.size):∃ gb hs,s.a2=some ⟨gb,0,none⟩∧κ' gb=2∧bxR 0 W'.heap.size gb s.n2 s.k2 H.bx hs W'∧∀ j b,j<H.bx.length→(hs j).1=some ⟨b,0,none⟩→κ' b=2:=by
 obtain⟨gb,hs,e,hk,h1,h2⟩:=h.x
 exact⟨gb,hs,e,(hc gb hk).1,h1.keep (hc gb hk).2 (fun j b hj hb=>(hc b (h2 j b hj hb)).2) hz,fun j b hj hb=>(hc b (h2 j b hj hb)).1⟩
theorem hG.r_ (h:hG κ H s W) (hc:∀ x,κ x=3→κ' x=3∧W'.heap[x]?=W.heap[x]?) (hz:W.heap.size≤W'.heap.size):∃ gq off hs,s.a3=some ⟨gq,off,none⟩∧κ' gq=3∧rowF W' gq (off+s.k3*5)∧ffR W' gq off s.n3 s.k3 0 H.ff hs W'.heap.size∧∀ j b,j<H.ff.length→(hs j).1=some ⟨b,0,none⟩→κ' b=3:=by
 obtain⟨gq,off,hs,e,hk,h1,h2,h3⟩:=h.r
 refine⟨gq,off,hs,e,(hc gq hk).1,h1.up (hc gq hk).2,(h2.keep fun x hx=>?_).mono hz,fun j b hj hb=>(hc b (h3 j b hj hb)).1⟩
 rcases hx with rfl|⟨j,hj,e⟩
 ·exact (hc _ hk).2
 ·exact (hc _ (h3 j x hj e)).2
theorem hG.q_ (h:hG κ H s W) (hc:∀ x,κ x=4→κ' x=4∧W'.heap[x]?=W.heap[x]?) (hz:W.heap.size≤W'.heap.size):∃ g4 rs,s.a4=some ⟨g4,0,none⟩∧κ' g4=4∧ownG rc8 W' 0 67 8 g4 s.k4 rs∧rs.map (·.1)=H.qu∧rs.length=s.n4∧∀ p ∈ rs,κ' (rc8.gd p)=4:=by
 obtain⟨g4,rs,e,hk,h1,h2,h3,h4⟩:=h.q
 exact⟨g4,rs,e,(hc g4 hk).1,h1.keepC (hc g4 hk).2 (fun p hp=>(hc _ (h4 p hp)).2) hz,h2,h3,fun p hp=>(hc _ (h4 p hp)).1⟩
theorem hG.st (h:hG κ H s W) (he:∀ x,κ x≠0→W'.heap[x]?=W.heap[x]?) (hz:W.heap.size≤W'.heap.size):hG κ H s W':=
 ⟨h.f_ fun x hx=>⟨hx,he x (by omega)⟩,h.x_ (fun x hx=>⟨hx,he x (by omega)⟩) hz,h.r_ (fun x hx=>⟨hx,he x (by omega)⟩) hz,h.q_ (fun x hx=>⟨hx,he x (by omega)⟩) hz,fun x hx=>nL (h.sm x hx) hz⟩
theorem hG.below (h:hG κ H s W) (hb:Below W.heap.size W W'):hG κ H s W':=h.st (fun x hx=>hb.block x (h.sm x hx)) hb.size
theorem hG.cells (h:hG κ H s W) {q:Nat} (hq:κ q=0) (o:Nat) (vs:List Value):hG κ H s (W.setCells q o vs):=h.st (fun x hx=>sO q x (by rintro rfl;exact hx hq) _ _ _) (by rw[sZ];exact nR _)
theorem hG.no (h:hG κ H s W) {x:Nat} (hx:W.heap.size≤x):κ x=0:=Classical.byContradiction fun e=>by have:=h.sm x e;omega
theorem hG.is (h:hG κ H s W):isHo W H s:=by
 obtain⟨gf,e1,_,_,h1⟩:=h.f
 obtain⟨gb,hs,e2,_,h2,_⟩:=h.x
 obtain⟨gq,off,hs,e3,_,_,h3,_⟩:=h.r
 obtain⟨g4,rs,e4,_,h4,hm,hl,_⟩:=h.q
 refine⟨by rw[e1];exact h1,by rw[e2];exact h2.is,by rw[e3];exact h3.is,?_⟩
 have:=h4.r8.now
 rw[hm,hl] at this
 rw[e4]
 exact this
theorem hG.n4 (h:hG κ H s W):s.n4=H.qu.length:=h.is.qu.len
theorem hG.n2 (h:hG κ H s W):s.n2=H.bx.length:=h.is.bx.len
theorem hG.n3 (h:hG κ H s W):s.n3=H.ff.length:=h.is.ff.len
theorem hG.slSome (h:hG κ H s W):slSome s:=by
 obtain⟨gf,e1,_⟩:=h.f
 obtain⟨gb,hs,e2,_⟩:=h.x
 exact⟨⟨gf,e1⟩,⟨gb,e2⟩⟩
theorem hG.col (h:hG κ H s W) {g:Nat} (hg:g<W.heap.size) (h0:κ g=0) (c:Nat):hG (fun x=>if x=g then c else κ x) H s W:=by
 have hc:∀ d,d≠0→∀ x,κ x=d→(if x=g then c else κ x)=d∧W.heap[x]?=W.heap[x]?:=fun d hd x hx=>by
  rw[if_neg (by rintro rfl;omega)]
  exact⟨hx,rfl⟩
 refine⟨h.f_ (hc 1 (by omega)),h.x_ (hc 2 (by omega)) (nR _),h.r_ (hc 3 (by omega)) (nR _),h.q_ (hc 4 (by omega)) (nR _),fun x hx=>?_⟩
 by_cases e:x=g
 ·omega
 ·rw[if_neg e] at hx
  exact h.sm x hx
theorem mvH.col (h:mvH κ W κ' W') {g:Nat} (hg:W.heap.size≤g) (c:Nat):mvH κ W (fun x=>if x=g then c else κ' x) W':=⟨h.s,fun x hx=>by rw[if_neg (by omega)];exact h.c x hx,h.k,h.o⟩
theorem hG.putX (h:hG κ H s W) {gb:Nat} (e2:s.a2=some ⟨gb,0,none⟩) {k:Nat} (hk:k<H.bx.length) (b:R8) (hd:Hd) (hb:iB W hd.1 hd.2.1 hd.2.2 b.l) (hw:(hd.1=none∧hd.2.1=0)∨∃ g,hd.1=some ⟨g,0,none⟩∧g<W.heap.size∧κ g=2∧g≠gb):hG κ { H with bx:=H.bx.set k b } s (W.setCells gb (k*8) (x8 (b,hd)))∧mvH κ W κ (W.setCells gb (k*8) (x8 (b,hd))):=by
 obtain⟨gb',hs,e,hk2,h1,h2⟩:=h.x
 obtain rfl:gb'=gb:=by rw[e2] at e;cases e;rfl
 have hz:W.heap.size≤(W.setCells gb' (k*8) (x8 (b,hd))).heap.size:=by rw[sZ];exact nR _
 have ho:∀ d,d≠2→∀ x,κ x=d→κ x=d∧(W.setCells gb' (k*8) (x8 (b,hd))).heap[x]?=W.heap[x]?:=fun d hd' x hx=>⟨hx,sO _ x (by rintro rfl;omega) _ _ _⟩
 have hp:=h1.put k hk b hd hb (by rcases hw with hw | ⟨g,q1,q2,q3,q4⟩;exact Or.inl hw;exact Or.inr ⟨g,q1,nZ _,q2,q4⟩)
 refine⟨⟨h.f_ (ho 1 (by omega)),⟨gb',_,e,hk2,by rw[sZ,setCells_row];exact hp,fun j c hj hc=>?_⟩,h.r_ (ho 3 (by omega)) hz,h.q_ (ho 4 (by omega)) hz,fun x hx=>by rw[sZ];exact h.sm x hx⟩,(mvH.refl κ W).cells (Or.inr (by omega)) _ _⟩
 have hj':j<H.bx.length:=by simpa using hj
 by_cases ej:j=k
 ·rw[if_pos ej] at hc
  rcases hw with hw|⟨g,q1,q2,q3,q4⟩
  ·rw[hw.1] at hc;cases hc
  ·rw[q1] at hc;cases hc;exact q3
 ·rw[if_neg ej] at hc
  exact h2 j c hj' hc
theorem hG.setX (h:hG κ H s W) {gb:Nat} (e2:s.a2=some ⟨gb,0,none⟩) {k:Nat} (hk:k<H.bx.length) (v:Int):hG κ (stHo H k v) s (W.setCell ⟨gb,k*8,none⟩ (I J v))∧mvH κ W κ (W.setCell ⟨gb,k*8,none⟩ (I J v)):=by
 obtain⟨gb',hs,e,hk2,h1,h2⟩:=h.x
 obtain rfl:gb'=gb:=by rw[e2] at e;cases e;rfl
 have es:stHo H k v = { H with bx:=H.bx.set k { H.bx[k] with x:=v } }:=by unfold stHo;rw[dif_pos hk]
 have hz:(W.setCell ⟨gb',k*8,none⟩ (I J v)).heap.size=W.heap.size:=by simp
 have ho:∀ d,d≠2→∀ x,κ x=d→κ x=d∧(W.setCell ⟨gb',k*8,none⟩ (I J v)).heap[x]?=W.heap[x]?:=fun d hd' x hx=>⟨hx,sO gb' x (by rintro rfl;omega) [_] _ _⟩
 rw[es]
 exact⟨⟨h.f_ (ho 1 (by omega)),⟨gb',_,e,hk2,by rw[hz];exact h1.setX k hk v,fun j c hj hc=>h2 j c (by simpa using hj) hc⟩,h.r_ (ho 3 (by omega)) (by omega),h.q_ (ho 4 (by omega)) (by omega),fun x hx=>by rw[hz];exact h.sm x hx⟩,(mvH.refl κ W).cells (Or.inr (by omega)) _ [_]⟩
structure fw (w:World) (κ0:Nat→Nat) (vp vr vq:Nat) (FL:List Value) (T:TypeId) (κ:Nat→Nat) (H:Ho) (s:Sl) (L:List Value) (W:World):Prop where
 p:blk W vp L 39
 r:blk W vr Z10 39
 f:blk W vq FL T
 g:hG κ H s W
 m:mvH κ0 w κ W
 z:κ vp=0∧κ vr=0∧κ vq=0∧vp≠vr∧vp≠vq∧w.heap.size≤vp∧w.heap.size≤vr
variable {κ0 : Nat → Nat} {p r q : Nat} {FL L : List Value} {T : TypeId} {H' : Ho} {s' : Sl}
theorem fw.call (h:fw w κ0 p r q FL T κ H s L W) (hg:hG κ' H' s' W'∧mvH κ W κ' W'):fw w κ0 p r q FL T κ' H' s' L W':=
 ⟨hg.2.blk h.p h.z.1,hg.2.blk h.r h.z.2.1,hg.2.blk h.f h.z.2.2.1,hg.1,h.m.trans hg.2,by rw[hg.2.c p h.p.lt,hg.2.c r h.r.lt,hg.2.c q h.f.lt];exact h.z⟩
theorem fw.below (h:fw w κ0 p r q FL T κ H s L W) (hb:Below W.heap.size W W'):fw w κ0 p r q FL T κ H s L W':=h.call ⟨h.g.below hb,mvH.of hb⟩
theorem fw.cells (h:fw w κ0 p r q FL T κ H s L W) (o:Nat) (vs:List Value) {L':List Value} (hL:blk (W.setCells p o vs) p L' 39):fw w κ0 p r q FL T κ H s L' (W.setCells p o vs):=
 ⟨hL,h.r.other h.z.2.2.2.1.symm _ _,h.f.other h.z.2.2.2.2.1.symm _ _,h.g.cells h.z.1 _ _,h.m.cells (Or.inl h.z.2.2.2.2.2.1) _ _,h.z⟩
theorem fw.set (h:fw w κ0 p r q FL T κ H s L W) (i:Nat) (v:Value):fw w κ0 p r q FL T κ H s (L.set i v) (W.setCell ⟨p,i,none⟩ v):=h.cells i [v] (h.p.set i v)
theorem fw.put (h:fw w κ0 p r q FL T κ H s L W) (L':List Value) (hl:L.length=L'.length):fw w κ0 p r q FL T κ H s L' (W.setCells p 0 L'):=h.cells 0 L' (by simpa using blk.put [] L [] L' (by simpa using h.p) hl)
theorem fw.fin {W8:World} (h:fw w κ0 p r q FL T κ H s L W) (e8:W.setCells r 0 (hoL H s)=W8):blk W8 r (hoL H s) 39∧hG κ H s W8∧mvH κ0 w κ W8:=by
 subst e8;exact⟨by simpa using blk.put [] Z10 [] (hoL H s) (by simpa using h.r) rfl,h.g.cells h.z.2.1 _ _,h.m.cells (Or.inl h.z.2.2.2.2.2.2) _ _⟩
theorem fw.new2 (h:hG κ H s w):fw w κ w.heap.size (w.heap.size+1) (w.heap.size+1) Z10 39 κ H s (hoL H s) ((w.alloc (.cells (hoL H s).toArray 39)).alloc (.cells zX.toArray 39)):=by
 have hb:Below w.heap.size w ((w.alloc (.cells (hoL H s).toArray 39)).alloc (.cells Z10.toArray 39)):=((bW _ _).alloc (nR _) _).alloc (by simp) _
 have hr:blk ((w.alloc (.cells (hoL H s).toArray 39)).alloc (.cells Z10.toArray 39)) (w.heap.size+1) Z10 39:=by simpa using blk.new (w.alloc (.cells (hoL H s).toArray 39)) Z10 39
 exact⟨(blk.new w _ 39).alloc _,hr,hr,h.below hb,mvH.of hb,h.no (nR _),h.no (nA _ _),h.no (nA _ _),by omega,by omega,by omega,by omega⟩
theorem fw.new3 (h:hG κ H s w) (FL:List Value):fw w κ w.heap.size (w.heap.size+1+1) (w.heap.size+1) FL 55 κ H s (hoL H s) (((w.alloc (.cells (hoL H s).toArray 39)).alloc (.cells FL.toArray 55)).alloc (.cells zX.toArray 39)):=by
 have hb:Below w.heap.size w (((w.alloc (.cells (hoL H s).toArray 39)).alloc (.cells FL.toArray 55)).alloc (.cells Z10.toArray 39)):=(((bW _ _).alloc (nR _) _).alloc (by simp) _).alloc (by simp;omega) _
 have hr:blk (((w.alloc (.cells (hoL H s).toArray 39)).alloc (.cells FL.toArray 55)).alloc (.cells Z10.toArray 39)) (w.heap.size+1+1) Z10 39:=by simpa using blk.new ((w.alloc (.cells (hoL H s).toArray 39)).alloc (.cells FL.toArray 55)) Z10 39
 have hf:blk ((w.alloc (.cells (hoL H s).toArray 39)).alloc (.cells FL.toArray 55)) (w.heap.size+1) FL 55:=by simpa using blk.new (w.alloc (.cells (hoL H s).toArray 39)) FL 55
 exact⟨((blk.new w _ 39).alloc _).alloc _,hr,hf.alloc _,h.below hb,mvH.of hb,h.no (nR _),h.no (by rw[Nat.add_assoc];exact nA _ _),h.no (nA _ _),by omega,by omega,by omega,by omega⟩
def hA (w:World) (κ:Nat→Nat) (H':Ho) (o:Ending) (w':World):Prop:=∃ s' κ',o = rT (aG (hoL H' s').toArray)∧Hid (hG κ' H' s' w'∧mvH κ w κ' w')
abbrev fw2 (w:World) (κ0 κ:Nat→Nat) (H:Ho) (s:Sl) (L:List Value) (W:World):Prop:=fw w κ0 w.heap.size (w.heap.size+1) (w.heap.size+1) Z10 39 κ H s L W
abbrev fw3 (w:World) (κ0:Nat→Nat) (FL:List Value) (κ:Nat→Nat) (H:Ho) (s:Sl) (L:List Value) (W:World):Prop:=fw w κ0 w.heap.size (w.heap.size+1+1) (w.heap.size+1) FL 55 κ H s L W
section
variable {ops : Array Oper} {rest : List Oper} {op : Oper} {a : Act} {Q : Exit → Act → World → Prop} {x y : Operand}
theorem fw.ld (h:fw w κ0 p r q FL T κ H s (hoL H' s') W) (K:wpList Tp ops Q rest (a.put op.dst (aG (hoL H' s').toArray)) W) (hgd:op.guard=none:=by rfl) (ho:op.op = .load 39 x:=by rfl) (hx:a.eval x = pT (some ⟨p,0,none⟩):=by rfl):wpList Tp ops Q (op :: rest) a W:=
 wpList_load_mid (P:=Tp) hgd 39 x ho p 0 hx (hoL H' s') _ h.p.load Tryz.underlying39 rfl (sz41L _ _) K
theorem fw.sv (h:fw w κ0 p r q FL T κ H s (hoL H' s') W) {H2:Ho} {s2:Sl} (K:∀ W8,Hid (fw w κ0 p r q FL T κ H s (hoL H2 s2) W8)→wpList Tp ops Q rest (a.put op.dst undef) W8) (hgd:op.guard=none:=by rfl) (ho:op.op = .store 39 x y:=by rfl) (hx:a.eval x = pT (some ⟨p,0,none⟩):=by rfl) (hy:a.eval y = aG (hoL H2 s2).toArray:=by rfl):wpList Tp ops Q (op :: rest) a W:=
 wpList_store_mid (P:=Tp) hgd 39 x y ho p 0 (hoL H2 s2).toArray hx hy (h.p.there 0 10 (nR _)) (sz41A _ _) (hoL_one _ _) (K _ (h.put (hoL H2 s2) rfl))
theorem fw.rt (h:fw w κ0 p r q FL T κ H s L W) (K:∀ W8,blk W8 r (hoL H s) 39→Hid (hG κ H s W8∧mvH κ0 w κ W8)→wpList Tp ops Q rest (a.put op.dst undef) W8) (hgd:op.guard=none:=by rfl) (ho:op.op = .store 39 x y:=by rfl) (hx:a.eval x = pT (some ⟨r,0,none⟩):=by rfl) (hy:a.eval y = aG (hoL H s).toArray:=by rfl):wpList Tp ops Q (op :: rest) a W:=
 wpList_store_mid (P:=Tp) hgd 39 x y ho r 0 (hoL H s).toArray hx hy (h.r.there 0 10 (nR _)) (sz41A _ _) (hoL_one _ _) (K _ (h.fin rfl).1 (h.fin rfl).2)
theorem fw.bx (h:fw w κ0 p r q FL T κ H s L W) {gb k:Nat} (e2:s.a2=some ⟨gb,0,none⟩) (hk:k<H.bx.length) (b:R8) (hd:Hd) (hb:iB W hd.1 hd.2.1 hd.2.2 b.l) (hw:(hd.1=none∧hd.2.1=0)∨∃ g,hd.1=some ⟨g,0,none⟩∧g<W.heap.size∧κ g=2∧g≠gb)
  (K:∀ W8,Hid (fw w κ0 p r q FL T κ { H with bx:=H.bx.set k b } s L W8)→Hid (∀ x,x≠gb→W8.heap[x]?=W.heap[x]?)→wpList Tp ops Q rest (a.put op.dst undef) W8) (hgd:op.guard=none:=by rfl) (ho:op.op = .store 166 x y:=by rfl) (hx:a.eval x = pT (some ⟨gb,k*8,none⟩):=by rfl) (hy:a.eval y = aG (x8 (b,hd)).toArray:=by rfl):wpList Tp ops Q (op :: rest) a W:=by
 obtain⟨gb',hs,e,_,h1,_⟩:=h.g.x
 obtain rfl:gb'=gb:=by rw[e2] at e;cases e;rfl
 exact wpList_store_mid (P:=Tp) hgd 166 x y ho gb' (k*8) (x8 (b,hd)).toArray hx hy (h1.there k hk) sz95 (one8 _ _ _ _ _ _ _ _ _ _) (K _ (h.call (h.g.putX e2 hk b hd hb hw)) (fun x hx=>sO _ x hx _ _ _))
end
theorem fw.var (h:fw w κ0 p r q FL T κ H s L W) {L2:List Value} {T2:TypeId} (hb:Below W.heap.size W W') (h2:blk W' W.heap.size L2 T2):fw w κ0 p r W.heap.size L2 T2 κ H s L W':=
 have h':=h.below hb
 ⟨h'.p,h'.r,h2,h'.g,h'.m,h.z.1,h.z.2.1,h.g.no (nR _),h.z.2.2.2.1,Nat.ne_of_lt h.p.lt,h.z.2.2.2.2.2⟩
theorem lv39 (h:blk W p (hoL H s) 39):(loadVar 39 ⟨p,0,none⟩).run Tp W = .ok (aG (hoL H s).toArray) W:=rq39 h
theorem post_G (h:hG κ H s w) (ev:R8) (ao:Option Addr) (m c:Nat) (hn:H.qu.length≤1000) (hlo:0≤H.lo∧H.lo≤100000) (hf:iB w ao m c ev.l) (hm:m≤1048576) :
  Calls Tp 151 #[aG (hoL H s).toArray,I J ev.x,I J ev.y,I J ev.z,frV ev.e ev.i ev.r ev.d ao m c] w (hA w κ (pH H ev)):=by
 have hql:=h.n4
 obtain⟨x,y,z,e,i,r,d,l⟩:=ev
 have hml:m=l.length:=hf.len
 subst hml;by_cases hq:(s.n4:Int)<H.c3
 ·obtain⟨g4,rs,e4,k4,ho,hmap,hlen,hc⟩:=h.q
  refine (l3post_more w H s 0 g4 rs x y z e i r d ao c l e4 hq (by omega) ho hlen (nZ _) hf hm).mono ?_
  rintro o w' ⟨g',k',gd,kd,rfl,h1,h2,h3,h4,h5⟩;rw[hql] at hq
  have hg4:g4<w.heap.size:=h.sm g4 (by omega)
  have hgd:=(h1.dat _ (List.mem_append.2 (Or.inr (List.mem_singleton.2 rfl)))).2.2
  refine⟨qSl s g' (s.n4+1) k',fun x=>if x<w.heap.size then κ x else if x=g'∨x=gd then 4 else 0,by simp only[hoL,pH,loP,if_pos hq],?_,⟨h5.size,fun x hx=>if_pos hx,fun x hx h0=>h2 x (by rintro rfl;omega) hx,h5.os,h5.tape,h5.output⟩⟩
  have hk:∀ d,d≠0→d≠4→∀ x,κ x=d→(if x<w.heap.size then κ x else if x=g'∨x=gd then 4 else 0)=d∧w'.heap[x]?=w.heap[x]?:=fun d hd hd4 x hx=>by
   have hxl:=h.sm x (by omega)
   rw[if_pos hxl]
   exact⟨hx,h2 x (by rintro rfl;omega) hxl⟩
  refine⟨h.f_ (hk 1 (by omega) (by omega)),h.x_ (hk 2 (by omega) (by omega)) h5.size,h.r_ (hk 3 (by omega) (by omega)) h5.size,⟨g',_,rfl,?_,h1,by simp only[pH,quP,if_pos hq,List.map_append,hmap,List.map_cons,List.map_nil],by simp[qSl,hlen],fun p hp=>?_⟩,fun x hx=>?_⟩
  ·rcases h3 with rfl|h3
   ·rw[if_pos hg4];exact k4
   ·rw[if_neg (by omega),if_pos (Or.inl rfl)]
  ·rcases List.mem_append.1 hp with hp|hp
   ·rw[if_pos (h.sm _ (by have:=hc p hp;omega))]
    exact hc p hp
   ·rw[List.mem_singleton.1 hp]
    show (if gd<w.heap.size then κ gd else if gd=g'∨gd=gd then 4 else 0)=4
    rw[if_neg (by omega),if_pos (Or.inr rfl)]
  ·have:=h5.size
   by_cases e:x<w.heap.size
   ·omega
   ·rw[if_neg e] at hx
    by_cases e2:x=g'∨x=gd
    ·have:=h1.lt.2
     have:gd<w'.heap.size:=hgd.2
     rcases e2 with rfl | rfl <;> omega
    ·rw[if_neg e2] at hx
     exact absurd rfl hx
 ·refine (l3post_full w H s x y z e i r d ao c l (by omega) hlo).mono ?_
  rintro o w' ⟨rfl,hb⟩;rw[hql] at hq
  refine⟨s,κ,by simp only[hoL,pH,loP,if_neg hq],?_,mvH.of hb⟩
  have:=h.below hb
  have e:(pH H ⟨x,y,z,e,i,r,d,l⟩).qu=H.qu:=by simp only[pH,quP,if_neg hq]
  exact⟨this.f,this.x,this.r,by rw[e];exact this.q,this.sm⟩
theorem say_G (h:hG κ H s w) (x y z:Int) (hn:H.qu.length≤1000) (hlo:0≤H.lo∧H.lo≤100000) :
  Calls Tp 137 #[aG (hoL H s).toArray,I J x,I J y,I J z] w (hA w κ (pH H (ev3 x y z))):=by
 have F0:Hid _:=fw.new2 h
 have HN:Hid (H.qu.length≤1000∧0≤H.lo∧H.lo≤100000):=⟨hn,hlo⟩
 clear h hn hlo;go_enter Tryz.func137,Tryz.ntmps137
 go_wp2_with (refine fw.ld F0.out ?_)
 refine (post_G F0.out.g (ev3 x y z) none 0 0 HN.out.1 HN.out.2 (none8 _) (by omega)).mono ?_
 rintro o w1 ⟨s1,κ1,rfl,G1⟩;have F1:Hid _:=F0.out.call G1.out
 go_wp2_with (refine fw.rt F1.out ?_;intro w8 b8 G8)
 exact bC Tryz.results137 (lv39 b8) ⟨s1,κ1,rfl,G8⟩
variable {W : World}
theorem rowQ5.ffG {B T g n k:Nat} {bs:List R5} (h:rowQ5 B T 55 g n k bs W):∃ hs,ffR W g 0 n k 0 bs hs T∧rowF W g (k*5)∧B≤g∧∀ j b,j<bs.length→(hs j).1=some ⟨b,0,none⟩→B≤b:=by
 obtain⟨rs,ho,hm,hn,hg,hall⟩:=h
 have hown:=ho.own
 subst hm;have hF:=ownsRow_F hown
 rcases ownsRow_split hown with⟨e,_⟩|⟨g1,c1,e,q1,q2,q3,q4,q5⟩
 ·cases e
 cases e
 refine⟨fun j=>(rs.map fun p=>((some ⟨p.2.1,0,none⟩,p.1.l.length,p.2.2):Hd)).getD j (none,0,0),⟨by simp;omega,by omega,fun j hj=>?_,fun t ht=>absurd ht (by omega),fun j hj=>?_,hg⟩,hF,ho.lt.1,fun j b hj hb=>?_⟩
 ·have hj':j<rs.length:=by simpa using hj
  have e:x5 ((rs.map (·.1))[j],(rs.map fun p=>((some ⟨p.2.1,0,none⟩,p.1.l.length,p.2.2):Hd)).getD j (none,0,0))=rc5.enc rs[j]:=by
   simp[x5,f5,rc5,List.getD,hj']
  rw[e]
  intro t u hu;have ht:t<5:=by have:=(List.getElem?_eq_some_iff.mp hu).1;simpa[rc5] using this
  exact q5 (j*5+t) u (by rw[flat_at rc5.enc 5 (fun _=>rfl) rs j hj' t ht];exact hu) |> fun h=>by rw[Nat.zero_add] at h ⊢;exact h
 ·have hj':j<rs.length:=by simpa using hj
  have hm:=List.getElem_mem hj'
  obtain⟨d1,d2,d3,d4⟩:=ho.dat rs[j] hm
  simp only[List.getElem_map,List.getD,List.getElem?_map,List.getElem?_eq_getElem hj',Option.map_some,Option.getD_some]
  exact⟨d1,_,rfl,d3,hall _ hm⟩
 ·have hj':j<rs.length:=by simpa using hj
  have hm:=List.getElem_mem hj'
  simp only[List.getD,List.getElem?_map,List.getElem?_eq_getElem hj',Option.map_some,Option.getD_some] at hb
  cases hb
  exact (ho.dat rs[j] hm).2.1
theorem copyG (W:World) (H:Ho) (s:Sl) (h:isHo W H s) (hn:H.le 1048576):Calls Tp 67 #[aG (hoL H s).toArray] W fun o w'=>∃ s' κ,o = rT (aG (hoL H s').toArray)∧hG κ H s' w'∧(∀ x,x<W.heap.size+3→κ x=0)∧Below W.heap.size W w':=by
 rw[← hoV_L]
 refine (l3copy_own W H s h hn).mono ?_
 rintro o w' ⟨gf,kf,gb,kb,gq,kq,g4,k4,T0,T1,T2,T3,rfl,⟨o1,o2,o3,o4,o5,o6⟩,hst,hrf,hb⟩;obtain⟨h1,h2,h3,h4⟩:=hst.now
 obtain⟨hs,h2⟩:=h2.bxR
 obtain⟨hs5,f1,f2,f3,f4⟩:=h3.ffG
 obtain⟨rs,ho,hmap,hlen,hgT,hall⟩:=h4
 have hc:∃ κ:Nat→Nat,(∀ x,x<W.heap.size+3→κ x=0)∧(∀ x,w'.heap.size≤x→κ x=0)∧(∀ x,W.heap.size+3≤x→x<T0→κ x=1)∧(∀ x,T0≤x→x<T1→κ x=2)∧(∀ x,T1≤x→x<T2→κ x=3)∧∀ x,T2≤x→x<w'.heap.size→κ x=4:=by
  refine⟨fun x=>if x<W.heap.size+3∨w'.heap.size≤x then 0 else if x<T0 then 1 else if x<T1 then 2 else if x<T2 then 3 else 4,fun x hx=>?_,fun x hx=>?_,fun x h1 h2=>?_,fun x h1 h2=>?_,fun x h1 h2=>?_,fun x h1 h2=>?_⟩
  ·exact if_pos (Or.inl hx)
  ·exact if_pos (Or.inr hx)
  ·dsimp only;rw[if_neg (by omega),if_pos h2]
  ·dsimp only;rw[if_neg (by omega),if_neg (by omega),if_pos h2]
  ·dsimp only;rw[if_neg (by omega),if_neg (by omega),if_neg (by omega),if_pos h2]
  ·dsimp only;rw[if_neg (by omega),if_neg (by omega),if_neg (by omega),if_neg (by omega)]
 obtain⟨κ,k0,kz,k1,k2,k3,k4'⟩:=hc
 refine⟨⟨some ⟨gf,0,none⟩,s.n1,kf,some ⟨gb,0,none⟩,s.n2,kb,some ⟨gq,0,none⟩,s.n3,kq,some ⟨g4,0,none⟩,s.n4,k4⟩,κ,by rw[hoV_L],⟨⟨gf,rfl,k1 _ o1 o2,ownsRow_low hrf.now (nZ _),h1⟩,⟨gb,hs,rfl,k2 _ h2.lo h2.hi,⟨h2.len,h2.cap,nZ _,by have:=h2.hi;omega,h2.row,h2.rng,fun j hj=>?_⟩,fun j b hj hb=>?_⟩,⟨gq,0,hs5,rfl,k3 _ f3 f1.hi,by rw[Nat.zero_add];exact f2,f1.mono (by omega),fun j b hj hb=>k3 _ (f4 j b hj hb) ?_⟩,⟨g4,rs,rfl,k4' _ ho.lt.1 (by omega),⟨ownsRow_low ho.own (nZ _),fun p hp=>?_⟩,hmap,hlen,fun p hp=>k4' _ (ho.dat p hp).2.1 (by have:=hall p hp;omega)⟩,fun x hx=>Nat.lt_of_not_le fun h=>hx (kz x h)⟩,k0,hb⟩
 ·obtain⟨d1,d2|⟨b,d2,d3,d4,d5⟩⟩:=h2.dat j hj
  ·exact⟨d1,Or.inl d2⟩
  ·exact⟨d1,Or.inr ⟨b,d2,nZ _,by omega,d5⟩⟩
 ·obtain⟨d1,d2|⟨c,d2,d3,d4,d5⟩⟩:=h2.dat j hj
  ·rw[d2.1] at hb;cases hb
  ·rw[d2] at hb;cases hb;exact k2 _ d3 d4
 ·obtain⟨_,c,d2,d3,d4⟩:=f1.dat j hj
  rw[d2] at hb
  cases hb
  exact d4
 ·obtain⟨d1,d2,d3,d4⟩:=ho.dat p hp
  exact⟨d1,nZ _,d3,d4⟩
set_option maxRecDepth 40000
variable {w W:World} {B P:Nat} {m b c d:Int} {gv:List Value}
theorem sz39z:(Tp.info? 39).map (·.size)=some 10:=by kernel_rfl
theorem app_recO {ops:Array Oper} {rest:List Oper} {o:Oper} {a:Act} {Q:Exit→Act→World→Prop} (hgd:o.guard=none) (s x:Operand) (T E:TypeId) (Z:Value) (sz by_:Nat) (hi0:(Tp.info? E).map (fun i=>(i.zero,i.size,i.bytes))=some (some Z,sz,by_)) (hu:Tp.underlying T=some (.slice E)) (hZ:Z.cells.size=sz) (hsz:0<sz) (hby:by_≤1000)
  (ho:o.op = .call { callee:=.builtin .append,args:=#[s,x],argTypes:=#[T,T] })
  (B n:Nat) (v:Value) (xs:List Value) (hs:a.eval s=v) (hown:w.ownsRow B E sz v n xs) (b:Nat) (news:List Value) (hx:a.eval x = sL (some ⟨b,0,none⟩) 1 1) (hl:news.length=sz) (hb:w.heap[b]?=some (.cells news.toArray E)) (h1:∀ u ∈ news,u.oneCell'=true) (hn:n≤100000000) (hB:B≤w.heap.size)
  (h:∀ g' k' w',w'.ownsRow B E sz (sL (some ⟨g',0,none⟩) (n+1) k') (n+1) (xs++news)→(∀ k,k<w.heap.size→k<B→w'.heap[k]?=w.heap[k]?)→Below B w w'→wpList Tp ops Q rest (a.put o.dst (sL (some ⟨g',0,none⟩) (n+1) k')) w') :
  wpList Tp ops Q (o :: rest) a w:=by
 obtain⟨i0,hi,hz0,hz1,hz2⟩:=info_parts hi0
 have hmul:(n+1)*by_≤(n+1)*1000:=Nat.mul_le_mul_left _ hby
 obtain⟨v',w',hr,h2,h3,h4,h5⟩:=run_append_own_at (P:=Tp) w B T o.type E i0 Z sz by_ hu hi hz0 hz1 hz2 hZ hsz v n xs hown ⟨b,0,none⟩ 1 1 news (by rw[hl,Nat.one_mul]) (by
  intro j u hj;have:=range_block hb j u hj
  rw[Addr.add_lit]
  exact this) h1 (by unfold maxLen;omega) (by omega) hB
 have hne:v'≠sL none 0 0:=by
  intro e;obtain⟨_,e1⟩:=h4.1 e
  cases e1
 obtain⟨g',k',rfl,q1,q2,q3,q4⟩:=own_slice h2 hne
 refine wpList_plain hgd fun K hK=>?_
 unfold Oper.wp execOp
 simp only[ho,resolve,invoke,builtin,Sem.run_bind,Sem.run_pure,Result.andThen_ok,List.map_toArray,List.map_cons,List.map_nil,hs,hx,hr]
 have hB':Below B w w':=(bW _ _).grown h3 hB (fun k hk=>(World.ownsRow.lt hown k hk).1)
 exact hK _ _ (h g' k' w' h2 (fun k hk hkB=>hB'.block k hkB) hB')
def e80:R8→List Value:=fun _=>[I J 0,I J 0,I J 0,bO false,I .u32 0,bO false,I J 0,sL none 0 0]
theorem e80_snoc (k:Nat):(List.replicate k bx0).flatMap e80++[I J 0,I J 0,I J 0,bO false,I .u32 0,bO false,I J 0,sL none 0 0]=(List.replicate (k+1) bx0).flatMap e80:=by
 rw[List.replicate_succ',List.flatMap_append,List.flatMap_cons,List.flatMap_nil,List.append_nil]
 rfl
theorem e80_row {m k:Nat} {ao:Option Addr} (h:w.ownsRow B 166 8 (sL ao m k) m ((List.replicate m bx0).flatMap e80)):isR8s w ao m k (List.replicate m bx0):=by
 by_cases hn:(sL ao m k:Value) = sL none 0 0
 ·cases hn
  exact⟨by simp,nR _,fun e=>absurd rfl e⟩
 ·obtain⟨g,c,e,q1,q2,q3,q4⟩:=own_slice h hn
  cases e
  refine⟨by simp,q3,fun _=>⟨g,0,rfl,fun j hj=>⟨none,0,0,?_⟩⟩⟩
  have hj':j<m:=by simpa using hj
  have hc:∀ t,t<8→w.cell? ⟨g,j*8+t,none⟩=(e80 bx0)[t]?:=fun t ht=>by
   rw[q4 w rfl (j*8+t) (by omega),flat_at e80 8 (fun _=>rfl) _ j hj t ht]
   rfl
  rw[Nat.zero_add,List.getElem_replicate]
  exact⟨hc 0 (by omega),hc 1 (by omega),hc 2 (by omega),hc 3 (by omega),hc 4 (by omega),hc 5 (by omega),hc 6 (by omega),hc 7 (by omega),⟨rfl,nR _,fun _ hx=>(by cases hx),fun hne=>absurd rfl hne⟩⟩
structure nS (w:World) (m b c d:Int) (P:Nat) (gv:List Value) (W:World):Prop where
 p:blk W w.heap.size [I J m,I J b,I J c,I J d] 33
 r:blk W (w.heap.size+1) z10 39
 q:blk W P gv 39
 b:Below w.heap.size w W
theorem nS.belowB {W':World} (h:nS w m b c d P gv W) (hP:w.heap.size+2≤P) (hB:P<B) (hb:Below B W W'):nS w m b c d P gv W':=
 ⟨h.p.kept (hb.block _ (by omega)),h.r.kept (hb.block _ (by omega)),h.q.kept (hb.block _ (by omega)),h.b.trans (hb.mono (by omega))⟩
theorem nS.set (h:nS w m b c d P gv W) (hP:w.heap.size+2≤P) (o:Nat) (v:Value):nS w m b c d P (gv.set o v) (W.setCell ⟨P,o,none⟩ v):=
 ⟨h.p.setOther (by omega) _ _,h.r.setOther (by omega) _ _,h.q.set _ _,h.b.setCell (by show _≤P;omega) _⟩
theorem specNewHost_ok (w:World) (m:Nat) (b c d:Int) (g n cap:Nat) (bs:List R3) (h:okCf m b c d=true) (hf:isR3s w (some ⟨g,0,none⟩) n cap bs) (hn:n≤1048576) (hm:m≤8) (h2:okFs bs=true) :
  Calls Tp 197 #[cfV m b c d,sL (some ⟨g,0,none⟩) n cap] w fun o w'=>∃ s' κ,o = rT (.tuple #[hoV ⟨m,b,c,d,bs,List.replicate m bx0,[],[],0,0⟩ s',I J 0])∧hG κ ⟨m,b,c,d,bs,List.replicate m bx0,[],[],0,0⟩ s' w'∧(∀ x,x<w.heap.size+2→κ x=0)∧Below w.heap.size w w':=by
 have HE:Hid (∀ W,Calls Tp 127 #[cfV m b c d] W fun o w'=>o = rT (bO true)∧Below W.heap.size W w'):=fun W=>by have:=l3okConfig_any W m b c d;rw[h] at this;exact this
 have HF:Hid (∀ W,Below w.heap.size w W→Calls Tp 128 #[sL (some ⟨g,0,none⟩) n cap] W fun o w'=>o = rT (bO true)∧Below W.heap.size W w'):=fun W hW=>by have:=l3okFilters_any W _ n cap bs (hf.below hW) hn;rw[h2] at this;exact this
 have HFS:Hid (isR3s w (some ⟨g,0,none⟩) n cap bs):=hf
 have HLE:Hid (Ho.le ⟨m,b,c,d,bs,List.replicate m bx0,[],[],0,0⟩ 1048576):=⟨(by rw[← hf.len];exact hn),(by simp;omega),(by simp),(by simp),(by intro j hj;simp[bx0]),(by intro j hj;cases hj),(by intro j hj;cases hj)⟩
 clear h hf h2;go_enter Tryz.func197,Tryz.ntmps197
 go_wp2_with fail;refine (HE.out _).mono ?_
 rintro o w1 ⟨rfl,hb1⟩;have HP1:Hid (blk w1 w.heap.size [I J m,I J b,I J c,I J d] 33∧blk w1 (w.heap.size+1) z10 39∧Below w.heap.size w w1):=by
  refine⟨((blk.new w _ 33).alloc _).below hb1,?_,(((bW _ _).alloc (nR _) _).alloc (by simp) _).trans (hb1.mono (by simp;try omega))⟩
  have:=(blk.new (w.alloc (.cells [I J m,I J b,I J c,I J d].toArray 33)) z10 39).below hb1
  simpa using this
 clear hb1;go_wp2_with fail;refine (HF.out _ HP1.out.2.2).mono ?_
 rintro o w2 ⟨rfl,hb2⟩;have HP2:Hid (blk w2 w.heap.size [I J m,I J b,I J c,I J d] 33∧blk w2 (w.heap.size+1) z10 39∧Below w.heap.size w w2):=⟨HP1.out.1.below hb2,HP1.out.2.1.below hb2,HP1.out.2.2.trans (hb2.mono HP1.out.2.2.size)⟩
 clear hb2 HP1;have HZ2:Hid (w.heap.size+2≤w2.heap.size):=HP2.out.2.1.lt
 have HQ2:Hid (nS w m b c d w2.heap.size ([]++z10++[]) (w2.alloc (.cells z10.toArray 39))):=⟨HP2.out.1.alloc _,HP2.out.2.1.alloc _,blk.new w2 _ 39,HP2.out.2.2.alloc HP2.out.2.2.size _⟩
 go_wp2_with (first
  | (refine wpList_load_mid (P:=Tp) rfl 33 (.tmp 2) rfl w.heap.size 0 rfl _ _ HP2.out.1.load Tryz.underlying33 rfl sz33 ?_)
  | (refine wpList_store_mid (P:=Tp) rfl 39 (.tmp 6) (.tmp 18) rfl w2.heap.size 0 _ rfl rfl (HQ2.out.q.there 0 10 (by simp)) sz39z (one10 _ _ _ _ _ _ _ _ _ _ _ _ _ _ _ _ _ _) ?_;generalize hW3:World.setCells (World.alloc _ _) w2.heap.size 0 _=w3;have HN3:Hid (nS w m b c d w2.heap.size [I J m,I J b,I J c,I J d,sL (some ⟨g,0,none⟩) n cap,sL none 0 0,sL none 0 0,sL none 0 0,I J 0,I J 0] w3):=(hW3 ▸ ⟨HQ2.out.p.other (by have:=HZ2.out;omega) _ _,HQ2.out.r.other (by have:=HZ2.out;omega) _ _,blk.put [] z10 [] [I J m,I J b,I J c,I J d,sL (some ⟨g,0,none⟩) n cap,sL none 0 0,sL none 0 0,sL none 0 0,I J 0,I J 0] HQ2.out.q rfl,sW (by have:=HZ2.out;omega) _ _ HQ2.out.b⟩);clear hW3))
 clear HQ2;go_loopw [7] (fun t wr=>∃ (k kc:Nat) (ao:Option Addr),k≤m∧t = I J (k:Int)∧nS w m b c d w2.heap.size [I J m,I J b,I J c,I J d,sL (some ⟨g,0,none⟩) n cap,sL ao k kc,sL none 0 0,sL none 0 0,I J 0,I J 0] wr∧wr.ownsRow (w2.heap.size+1) 166 8 (sL ao k kc) k ((List.replicate k bx0).flatMap e80)) (fun t _=>m-(intOf t).toNat)
 case atStart=>exact⟨0,0,none,nZ _,rfl,HN3.out,World.ownsRow_nil _ _ _ _⟩
 case round=>
  clear HN3;obtain⟨k,kc,ao,hk,rfl,hN,ho⟩:=hrel
  have y0:=hN.p.cell 0 _ rfl
  have y5:=hN.q.cell 5 _ rfl
  have HN:Hid _:=hN
  have HO:Hid (wr.ownsRow (w2.heap.size+1) 166 8 (sL ao k kc) k ((List.replicate k bx0).flatMap e80)):=ho
  have hz:w2.heap.size<wr.heap.size:=hN.q.lt
  have HZ:Hid (w2.heap.size<wr.heap.size):=hz
  clear hN ho hz;by_cases hlt:k<m
  ·have HLT:Hid (k<m):=hlt
   have y5a:(wr.alloc (.cells #[I J 0,I J 0,I J 0,bO false,I .u32 0,bO false,I J 0,sL none 0 0] 166)).cell? ⟨w2.heap.size,5,none⟩=some (sL ao k kc):=(HN.out.q.alloc _).cell 5 _ rfl
   go_wp2_with (first
    | (at_builtin;refine app_recO (w:=wr.alloc (.cells #[I J 0,I J 0,I J 0,bO false,I .u32 0,bO false,I J 0,sL none 0 0] 166)) rfl (.tmp 26) (.tmp 28) 35 166 _ 8 72 Tryz.info166 Tryz.underlying35 rfl (by decide) (by decide) rfl (w2.heap.size+1) k (sL ao k kc) _ rfl (HO.out.alloc _) wr.heap.size [I J 0,I J 0,I J 0,bO false,I .u32 0,bO false,I J 0,sL none 0 0] rfl rfl (blk.new wr _ 166) (one8L _ _ _ _ _ _ _ _ _ _) (by omega) (by have:=HZ.out;simp;omega) ?_;intro g' k' w6 ho6 hs6 hb6;have N6:=((HN.out.belowB HZ2.out HZ.out ((bW wr.heap.size wr).alloc (nR _) (.cells #[I J 0,I J 0,I J 0,bO false,I .u32 0,bO false,I J 0,sL none 0 0] 166))).belowB HZ2.out (Nat.lt_succ_self _) hb6);have x6:=N6.q.cell 5 _ rfl;have f6:=N6.q.free 5;have HN6:Hid _:=N6;have HO6:Hid (w6.ownsRow (w2.heap.size+1) 166 8 (sL (some ⟨g',0,none⟩) (k+1) k') (k+1) ((List.replicate k bx0).flatMap e80++[I J 0,I J 0,I J 0,bO false,I .u32 0,bO false,I J 0,sL none 0 0])):=ho6;clear N6 ho6 hs6 hb6))
   go_roundw
   case rel=>
    refine⟨k+1,k',some ⟨g',0,none⟩,HLT.out,by go_num,HN6.out.set HZ2.out 5 (sL (some ⟨g',0,none⟩) (k+1) k'),?_⟩
    rw[← e80_snoc]
    refine oK HO6.out ?_
    rw[heap_setCell_other _ _ _ _ (by have:=(World.ownsRow.lt HO6.out g' rfl).1;show g'≠w2.heap.size;omega)]
   case measure=>have:=HLT.out;simp[intOf];omega
  ·have hkm:m=k:=by omega
   subst hkm;have HIS:Hid (isHo wr ⟨m,b,c,d,bs,List.replicate m bx0,[],[],0,0⟩ ⟨some ⟨g,0,none⟩,n,cap,ao,m,kc,none,0,0,none,0,0⟩):=⟨HFS.out.below HN.out.b,e80_row HO.out,⟨rfl,nR _,fun e=>absurd rfl e⟩,⟨rfl,nR _,fun e=>absurd rfl e⟩⟩
   go_wp2_with (first
    | (refine wpList_load_mid (P:=Tp) rfl 39 (.tmp 6) rfl w2.heap.size 0 rfl _ _ HN.out.q.load Tryz.underlying39 rfl sz39z ?_)
    | (go_at_call 67;refine (copyG wr ⟨m,b,c,d,bs,List.replicate m bx0,[],[],0,0⟩ ⟨some ⟨g,0,none⟩,n,cap,ao,m,kc,none,0,0,none,0,0⟩ HIS.out HLE.out).mono ?_;rintro o w7 ⟨⟨b1,m1,l1,b2,m2,l2,b3,m3,l3,b4,m4,l4⟩,κ,rfl,S7,S8,hb7⟩;have HS7:Hid _:=And.intro S7 S8;have HN7:Hid _:=HN.out.belowB HZ2.out HZ.out hb7;clear S7 S8 hb7)
    | (refine wpList_store_mid (P:=Tp) rfl 39 (.tmp 4) (.tmp 32) rfl (w.heap.size+1) 0 _ rfl rfl (HN7.out.r.there 0 10 (by simp)) sz39z (one10 _ _ _ _ _ _ _ _ _ _ _ _ _ _ _ _ _ _) ?_;generalize hW8:World.setCells w7 (w.heap.size+1) 0 _=w8;have HW8:Hid (World.setCells w7 (w.heap.size+1) 0 [I J m,I J b,I J c,I J d,sL b1 m1 l1,sL b2 m2 l2,sL b3 m3 l3,sL b4 m4 l4,I J 0,I J 0]=w8):=hW8;clear hW8))
   have e8:=HW8.out
   have hF:blk w8 (w.heap.size+1) [I J m,I J b,I J c,I J d,sL b1 m1 l1,sL b2 m2 l2,sL b3 m3 l3,sL b4 m4 l4,I J 0,I J 0] 39:=e8 ▸ blk.put [] z10 [] _ HN7.out.r rfl
   have hL:=run_loadVar_mid (P:=Tp) w8 (w.heap.size+1) 0 39 _ _ hF.load Tryz.underlying39 rfl sz39z
   refine bodyPost_ret (results_cell_tmp Tryz.results197 _ w8 (w.heap.size+1) _ rfl hL) rfl ?_
   refine⟨⟨b1,m1,l1,b2,m2,l2,b3,m3,l3,b4,m4,l4⟩,κ,rfl,?_,fun x hx=>HS7.out.2 x (by have:=HZ.out;have:=HZ2.out;omega),?_⟩
   ·rw[← e8]
    exact HS7.out.1.cells (HS7.out.2 _ (by have:=HZ.out;have:=HZ2.out;omega)) _ _
   ·rw[← e8]
    exact sW (by omega) _ _ HN7.out.b
def anyR (R:R5) (v:Nat):R5:=
 if v=0 then { R with d:=16 } else if v=1 then { R with d:=-1 } else if v=2 then { R with l:=R.l++[1] } else if v=3 then { R with i:=536870912 } else if v=4 then { R with e:=false,i:=2048 } else { R with r:=!R.r }
theorem anyR_len (R:R5) (v:Nat) (h:R.l.length≤8):(anyR R v).l.length≤9:=by
 unfold anyR
 repeat' split
 all_goals first | (simp;omega) | exact Nat.le_succ_of_le h
theorem frE (l:List Nat) (σ:Sg) (hi:σ.1+100≤1000000000):∃ (R:R5) (τ:Sg),τ.1≤σ.1+25∧R.l.length≤8∧Hid (∀ (w0 w:World) (b:Nat) (a:Option Addr) (n cap:Nat),srcF w0 b a n cap l σ w→Calls Tp 204 #[pT (some ⟨b,0,none⟩)] w (frO w0 w b a n cap l (R,τ))):=by
 have h1:=gFrame_lt l σ
 have h3:=gFrame_len l σ
 have h2:Hid (∀ (w0 w:World) (b:Nat) (a:Option Addr) (n cap:Nat),srcF w0 b a n cap l σ w→Calls Tp 204 #[pT (some ⟨b,0,none⟩)] w (frO w0 w b a n cap l (gFrame l σ))):=fun w0 w b a n cap hW=>genFrame_f hW hi
 obtain⟨⟨R,τ⟩,hp⟩ : ∃ x,gFrame l σ=x:=⟨_,rfl⟩
 rw[hp] at h1 h2 h3
 exact⟨R,τ,h1,h3,h2⟩
variable {w0 w W W' : World} {b : Nat} {a : Option Addr} {n cap : Nat} {l : List Nat} {σ σ' : Sg} {P g k : Nat} {Z L : List Value} {D : List Nat}
theorem gV.app {g' k' c:Nat} (h:gV 55 Z (frQ w.heap.size D k g) w0 w b a n cap l σ P L W) (hP:g≠P) (hgw:g≠w.heap.size) (hc:c<256) (hG:W.grownBy W' (some g)) (hr:W'.ownsRow w.heap.size 5 1 (sL (some ⟨g',0,none⟩) (D.length+1) k') (D.length+1) (bv D++[I .u8 (c:Int)])) (hg':g'=g∨g'=W.heap.size) (hD:∀ x ∈ D,x<256):gV 55 Z (frQ w.heap.size (D++[c]) k' g') w0 w b a n cap l σ P L W':=by
 have hb:=h.x
 have hs:=h.s.hb
 have hp:=h.p.lt
 have hl:=World.ownsRow.lt (h.y W (fun _ _ _ _=>rfl)).own g rfl
 have he:∀ x,x≠g→x<W.heap.size→W'.heap[x]?=W.heap[x]?:=fun x h1 h2=>hG.block x h2 (by intro e;cases e;exact h1 rfl)
 have hr2:ownsB W' w.heap.size (sL (some ⟨g',0,none⟩) (D.length+1) k') (D++[c]):=by
  show W'.ownsRow _ _ _ _ _ _
  rw[bv_append,List.length_append,List.length_singleton]
  exact hr
 obtain⟨g2,k2,hv,q1,q2,q3⟩:=ownsB_bytes hr2 (by intro e;cases e) (by intro x hx;rcases List.mem_append.1 hx with h | h;exact hD x h;rw[List.mem_singleton.1 h];exact hc)
 obtain⟨rfl,rfl⟩ : g'=g2∧k'=k2:=by simp at hv;exact⟨hv.1,hv.2⟩
 refine⟨h.s.other (q:=g) (by omega) (by omega) he hG.size ⟨hG.os,hG.tape,hG.output⟩,h.o.other (q:=g) (by omega) he hG.size ⟨hG.os,hG.tape,hG.output⟩,h.z.kept (he _ (by omega) h.z.lt),h.p.kept (he _ (by omega) hp),hb,fun V hV=>?_⟩
 have hV2:=hV g' (by omega) (by omega) q2
 have hW2:W'.heap[g']?≠none:=by rw[Array.getElem?_eq_getElem q2];simp
 refine⟨?_,?_,?_⟩
 ·obtain⟨x1,x2,x3,x4⟩:=q3.now
  refine⟨x1,x2,x3,fun hne=>?_⟩
  obtain⟨g3,o3,e3,x5⟩:=x4 hne
  cases e3
  refine⟨_,_,rfl,fun j hj=>?_⟩
  rw[← x5 j hj]
  exact cell_same hV2 _
 ·rw[← hV2] at hW2
  exact Nat.lt_of_not_le fun h=>hW2 (Array.getElem?_eq_none h)
 ·have h:=hr2
  unfold ownsB at h
  rw[List.length_append,List.length_singleton] at h ⊢
  exact oK h hV2
theorem genAny_f (l:List Nat) (σ:Sg) (hi:σ.1+200≤1000000000):∃ (R:R5) (τ:Sg),τ.1≤σ.1+30∧R.l.length≤9∧Hid (∀ (w0 w:World) (b:Nat) (a:Option Addr) (n cap:Nat),srcF w0 b a n cap l σ w→Calls Tp 205 #[pT (some ⟨b,0,none⟩)] w (frO w0 w b a n cap l (R,τ))):=by
 obtain⟨R,s1,q1,HLN,D1⟩:=frE l σ (by omega)
 obtain⟨v2,s2,p2,q2,D2⟩:=nE l s1 5 5 rfl (by decide) (by decide) (by omega)
 obtain⟨v3,s3,p3,q3,D3⟩:=nE l s2 6 6 rfl (by decide) (by decide) (by omega)
 obtain⟨e,he⟩ : ∃ e,((v2:Int) == 0)=e:=⟨_,rfl⟩
 obtain⟨R',hR⟩ : ∃ R':R5,R'=if e then anyR R v3 else R:=⟨_,rfl⟩
 obtain⟨τ',hτ⟩ : ∃ τ':Sg,τ'=if e then s3 else s2:=⟨_,rfl⟩
 have HE:Hid (R'=(if e then anyR R v3 else R)∧τ'=if e then s3 else s2):=⟨hR,hτ⟩
 refine⟨R',τ',by cases e <;> simp[hτ] <;> omega,by rw[hR];cases e;exact Nat.le_succ_of_le HLN;exact anyR_len _ _ HLN,fun w0 w b a n cap h=>?_⟩
 have HR:Hid (srcF w0 b a n cap l σ w):=h
 clear hR hτ h q1 q2 q3;go_enter Tryz.func205,Tryz.ntmps205
 go_wp2_with fail;refine (D1.out _ _ _ _ _ _ (HR.out.below ((bW _ _).alloc (nR _) _))).mono ?_
 rintro o w1 ⟨g,k,rfl,h1,h2,h3,h4,h5⟩;have H1:Hid (∀ L,gV 55 z5 (frQ w.heap.size R.l k g) w0 w b a n cap l s1 w1.heap.size L (w1.alloc (.cells L.toArray 55))):=fun L=>gV.new HR.out z5 L 55 h3 h4 (by have:=frQ.of h1 h2 h5 (B':=w.heap.size) (by simp);simpa using this)
 have hg:Hid (w.heap.size<g∧g<w1.heap.size∧(∀ x ∈ R.l,x<256)∧R.l.length≤1000):=by
  have:=h1.1;simp at this;exact⟨by omega,h1.2,h2.now.small,by omega⟩
 clear HR D1 h1 h2 h3 h4 h5;unfold frV
 go_wp2_with fail;have H1:Hid (gV 55 z5 (frQ w.heap.size R.l k g) w0 w b a n cap l s1 w1.heap.size (l5 R g k) (w1.alloc (.cells (l5 R g k).toArray 55))):=H1.out _
 generalize w1.heap.size=P at *;refine (gV.call D2 H1.out).mono ?_
 rintro o w2 ⟨rfl,H2⟩;clear H1 D2;go_upto_if 8 with fail
 go_cut [] (fun wx=>∃ g k,w.heap.size≤g∧gV 55 z5 (frQ w.heap.size R'.l k g) w0 w b a n cap l τ' P (l5 R' g k) wx)
 case first=>
  cases e
  ·obtain⟨rfl,rfl⟩ : R'=R∧τ'=s2:=HE.out
   go_wp2_with fail;go_meet
   case rel=>exact⟨g,k,Nat.le_of_lt hg.out.1,H2.out⟩
  ·obtain⟨hR,hτ⟩ : R'=anyR R v3∧τ'=s3:=HE.out
   subst hτ;have HRR:Hid (R'=anyR R v3):=hR
   clear HE hR;go_wp2_with fail;refine (gV.call D3 H2.out).mono ?_
   rintro o w3 ⟨rfl,H3⟩;clear H2 D3;have y0:=H3.out.p.cell 0 _ rfl
   have f0:=H3.out.p.free 0
   have y1:=H3.out.p.cell 1 _ rfl
   have f1:=H3.out.p.free 1
   have y2:=H3.out.p.cell 2 _ rfl
   have f2:=H3.out.p.free 2
   have y3:=H3.out.p.cell 3 _ rfl
   have f3:=H3.out.p.free 3
   have y4:=H3.out.p.cell 4 _ rfl
   have f4:=H3.out.p.free 4
   obtain rfl|rfl|rfl|rfl|rfl|rfl:v3=0∨v3=1∨v3=2∨v3=3∨v3=4∨v3=5:=by omega
   ·go_wp2_with fail;go_meet
    case rel=>rw[HRR.out];exact⟨g,k,Nat.le_of_lt hg.out.1,H3.out.set 3 _⟩
   ·go_wp2_with fail;go_meet
    case rel=>rw[HRR.out];exact⟨g,k,Nat.le_of_lt hg.out.1,H3.out.set 3 _⟩
   ·have H4:Hid (gV 55 z5 (frQ w.heap.size R.l k g) w0 w b a n cap l τ' P (l5 R g k) (w3.alloc (.cells #[I .u8 1] 5))):=H3.out.below ((bW _ _).alloc (nR _) _)
    have y5:=H4.out.p.cell 4 _ rfl
    go_wp2_with (first
     | (at_builtin;refine app_rec rfl (.tmp 20) (.tmp 21) 50 5 _ 1 1 Tryz.info5 Tryz.underlying50 rfl (by decide) (by decide) rfl w.heap.size g R.l.length k (bv R.l) rfl (H4.out.y _ (fun _ _ _ _=>rfl)).own w3.heap.size [I .u8 1] rfl rfl (blk.new w3 [I .u8 1] 5) (by simp[Value.oneCell']) (by have:=hg.out.2.2.2;omega) (by have:=H4.out.o.s;simp at this ⊢;omega) ?_;intro g' k' w6 ho6 hg6 hg' hB6;have H5:Hid (gV 55 z5 (frQ w.heap.size (R.l++[1]) k' g') w0 w b a n cap l τ' P (l5 R g k) w6):=H4.out.app (c:=1) (by have:=hg.out;omega) (by have:=hg.out;omega) (by decide) hg6 ho6 hg' hg.out.2.2.1;have y8:=H5.out.p.cell 4 _ rfl;have f8:=H5.out.p.free 4;clear ho6 hg6 hg'))
    go_meet
    case rel=>
     rw[HRR.out]
     have q:=H5.out.set 4 (sL (some ⟨g',0,none⟩) (R.l.length+1) k')
     have e:(R.l++[1]).length=R.l.length+1:=by simp
     refine⟨g',k',hB6,?_⟩
     show gV 55 z5 (frQ w.heap.size (R.l++[1]) k' g') w0 w b a n cap l τ' P [bO R.e,I .u32 (R.i:Int),bO R.r,I J R.d,sL (some ⟨g',0,none⟩) (R.l++[1]).length k'] _
     rw[e]
     exact q
   ·go_wp2_with fail;go_meet
    case rel=>rw[HRR.out];exact⟨g,k,Nat.le_of_lt hg.out.1,H3.out.set 1 _⟩
   ·have H4:Hid (gV 55 z5 (frQ w.heap.size R.l k g) w0 w b a n cap l τ' P [bO false,I .u32 (R.i:Int),bO R.r,I J R.d,sL (some ⟨g,0,none⟩) R.l.length k] (w3.setCell ⟨P,0,none⟩ (bO false))):=H3.out.set 0 _
    have y6:=H4.out.p.cell 1 _ rfl
    have f6:=H4.out.p.free 1
    go_wp2_with fail;go_meet
    case rel=>rw[HRR.out];exact⟨g,k,Nat.le_of_lt hg.out.1,H4.out.set 1 _⟩
   ·go_wp2_with fail;go_meet
    case rel=>rw[HRR.out];exact⟨g,k,Nat.le_of_lt hg.out.1,H3.out.set 2 _⟩
 case rest=>
  clear H2 HE hg D3;obtain⟨g,k,hg,hcut⟩:=hcut
  have HG:Hid (gV 55 z5 (frQ w.heap.size R'.l k g) w0 w b a n cap l τ' P (l5 R' g k) wc):=hcut
  clear hcut;go_wp2_with (first
   | (refine lq55 HG.out.p.load ?_)
   | (refine wpList_store_mid (P:=Tp) rfl 55 (.tmp 2) (.tmp 37) rfl w.heap.size 0 _ rfl rfl (HG.out.z.there 0 5 (by simp)) sz93 (all_oneCell_toArray (by simp[Value.oneCell'])) ?_;generalize hW8:World.setCells wc w.heap.size 0 _=w8;have HW8:Hid (World.setCells wc w.heap.size 0 (l5 R' g k)=w8):=hW8;clear hW8))
  have q:=HG.out.frO hg HW8.out
  exact bC Tryz.results205 (run_loadVar_mid (P:=Tp) w8 w.heap.size 0 55 _ _ q.1.load Tryz.underlying55 rfl sz93) q.2
def coO (w0 w:World) (b:Nat) (a:Option Addr) (n cap:Nat) (l:List Nat) (C:Co) (τ:Sg) (o:Ending) (w':World):Prop:=∃ s,o = rT (aG (coL C s).toArray)∧St w.heap.size w' (fun W=>isHo W C.ho s)∧slSome s∧srcF w0 b a n cap l τ w'∧onS b w w'
def anyC:Prop:=∀ (l:List Nat) (σ:Sg) (ph:Nat),σ.1≤1000→ph≤7→l.length≤1048576→∃ (C:Co) (τ:Sg),C.ho.le 1048576∧Hid (∀ (w0 w:World) (b:Nat) (a:Option Addr) (n cap:Nat),srcF w0 b a n cap l σ w→Calls Tp 61 #[pT (some ⟨b,0,none⟩),I J (ph:Int)] w (coO w0 w b a n cap l C τ))
variable {w0 w W : World} {b : Nat} {a : Option Addr} {n cap : Nat} {l : List Nat} {σ τ : Sg}
theorem srcF.call {f:Nat} {args:List Value} {v:Value} (D:dr f args l σ v τ) (h:srcF w0 b a n cap l σ W):Calls Tp f (pT (some ⟨b,0,none⟩) :: args).toArray W fun o w'=>o = rT v∧Hid (srcF w0 b a n cap l τ w'):=
 (D.out _ _ _ _ _ _ h).mono fun _ _ q=>⟨q.1,q.2.1⟩
theorem drawCore_f (H:anyC) (l:List Nat) (hl:l.length≤1048576):∃ (C:Co) (bit:Int),C.ho.le 1048576∧∀ (w:World) (a:Option Addr) (n cap:Nat),iB w a n cap l→Calls Tp 25 #[sL a n cap] w fun o w'=>∃ s,o = rT (.tuple #[aG (coL C s).toArray,I J bit])∧St (w.heap.size+1) w' (fun W=>isHo W C.ho s)∧slSome s∧Below w.heap.size w w':=by
 obtain⟨v1,s1,p1,q1,D1⟩:=nE l (0,l.length+77) 8 8 rfl (by decide) (by decide) (by show 0<_;decide)
 obtain⟨v2,s2,p2,q2,D2⟩:=nE l s1 4 4 rfl (by decide) (by decide) (by omega)
 obtain⟨ph,hph⟩ : ∃ x,x=if v1=1∧0<v2 then 2 else v1:=⟨_,rfl⟩
 obtain⟨sA,hsA⟩ : ∃ x,x=if v1=1 then s2 else s1:=⟨_,rfl⟩
 have hA:sA.1≤2:=by rw[hsA];split <;> omega
 have hph7:ph≤7:=by rw[hph];split <;> omega
 obtain⟨v3,s3,p3,q3,D3⟩:=nE l sA 2 2 rfl (by decide) (by decide) (by omega)
 obtain⟨v4,s4,p4,q4,D4⟩:=nE l s3 20 20 rfl (by decide) (by decide) (by omega)
 obtain⟨v5,s5,p5,q5,D5⟩:=nE l s4 2 2 rfl (by decide) (by decide) (by omega)
 obtain⟨bit,hbit⟩ : ∃ x:Int,x=if v4=0 then 3*(v5:Int)-1 else v3:=⟨_,rfl⟩
 obtain⟨sB,hsB⟩ : ∃ x,x=if v4=0 then s5 else s4:=⟨_,rfl⟩
 have hB:sB.1≤1000:=by rw[hsB];split <;> omega
 obtain⟨C,τ,hC,DC⟩:=H l sB ph hB hph7 hl
 have HA:Hid (ph=(if v1=1∧0<v2 then 2 else v1)∧sA=if v1=1 then s2 else s1):=⟨hph,hsA⟩
 have HB:Hid (bit=(if v4=0 then 3*(v5:Int)-1 else v3)∧sB=if v4=0 then s5 else s4):=⟨hbit,hsB⟩
 refine⟨C,bit,hC,fun w a n cap h=>?_⟩
 have hn:n≤1048576:=by rw[h.len];exact hl
 have HW:Hid (Below w.heap.size w (w.alloc (.cells Z21.toArray 41))):=(bW _ _).alloc (nR _) _
 have HN:Hid (Calls Tp 59 #[sL a n cap] (w.alloc (.cells Z21.toArray 41)) fun o w'=>∃ b,o = rT (pT (some ⟨b,0,none⟩))∧srcF (w.alloc (.cells Z21.toArray 41)) b a n cap l (0,l.length+77) w'∧Below (w.alloc (.cells Z21.toArray 41)).heap.size (w.alloc (.cells Z21.toArray 41)) w'):=by
  have:=new_f (w.alloc (.cells Z21.toArray 41)) a n cap l (h.below HW.out) hn
  rw[h.len] at this ⊢
  exact this
 clear h hph hsA hbit hsB q1 q2 q3 q4 q5 hA hB H;go_enter Tryz.func25,Tryz.ntmps25
 go_wp2_with fail;refine HN.out.mono ?_
 rintro o w1 ⟨b,rfl,h1,_⟩;have H1:Hid (srcF (w.alloc (.cells Z21.toArray 41)) b a n cap l (0,l.length+77) w1):=h1
 clear HN h1;go_wp2_with fail;refine (srcF.call D1 H1.out).mono ?_
 rintro o w2 ⟨rfl,H2⟩;clear H1 D1;go_upto_region 3 with fail
 obtain⟨c,hc⟩ : ∃ c:Bool,c=decide (v1=1∧0<v2):=⟨_,rfl⟩
 have HC:Hid (c=decide (v1=1∧0<v2)):=hc
 clear hc;go_cut [17] (fun t wx=>t = bO c∧srcF (w.alloc (.cells Z21.toArray 41)) b a n cap l sA wx)
 case first=>
  by_cases e:v1=1
  ·have hA:=HA.out.2
   rw[if_pos e] at hA
   subst hA e;go_wp2_with (refine (srcF.call D2 H2.out).mono ?_;rintro o w3 ⟨rfl,H3⟩)
   go_meet
   case rel=>exact⟨by rw[HC.out];simp,H3.out⟩
  ·have hA:=HA.out.2
   rw[if_neg e] at hA
   subst hA;have e1:((v1:Int) == 1)=false:=by simp;omega
   go_wp2_with fail;go_meet
   case rel=>exact⟨by rw[HC.out];simp[e],H2.out⟩
 case rest=>
  obtain⟨rfl,hcut⟩:=hcut
  clear H2 D2;have H3:Hid (srcF (w.alloc (.cells Z21.toArray 41)) b a n cap l sA wc):=hcut
  clear hcut;have HP:Hid (ph=if c then 2 else v1):=by
   show _=_
   rw[HA.out.1,HC.out]
   simp only[decide_eq_true_eq]
  clear HA HC;go_upto_if 17 with fail
  go_cut [5] (fun t wx=>t = I J (ph:Int)∧srcF (w.alloc (.cells Z21.toArray 41)) b a n cap l sA wx)
  case first=>
   have hP:=HP.out
   cases c
   all_goals
    subst hP;go_wp2_with fail;go_meet
    case rel=>exact⟨rfl,H3.out⟩
  case rest=>
   obtain⟨rfl,hcut⟩:=hcut
   clear H3 HP;have H3:Hid (srcF (w.alloc (.cells Z21.toArray 41)) b a n cap l sA wc):=hcut
   clear hcut;go_wp2_with fail;refine (srcF.call D3 H3.out).mono ?_
   rintro o w4 ⟨rfl,H4⟩;clear H3 D3;go_wp2_with fail;refine (srcF.call D4 H4.out).mono ?_
   rintro o w5 ⟨rfl,H5⟩;clear H4 D4;go_upto_if 22 with fail
   go_cut [6] (fun t wx=>t = I J bit∧srcF (w.alloc (.cells Z21.toArray 41)) b a n cap l sB wx)
   case first=>
    by_cases e:v4=0
    ·obtain⟨h1,h2⟩:=HB.out
     rw[if_pos e] at h1 h2
     subst h1 h2 e;go_wp2_with (refine (srcF.call D5 H5.out).mono ?_;rintro o w6 ⟨rfl,H6⟩)
     go_meet
     case rel=>exact⟨rfl,H6.out⟩
    ·obtain⟨h1,h2⟩:=HB.out
     rw[if_neg e] at h1 h2
     subst h1 h2;have e1:((v4:Int) == 0)=false:=by simp;omega
     go_wp2_with fail;go_meet
     case rel=>exact⟨rfl,H5.out⟩
   case rest=>
    obtain⟨rfl,hcut⟩:=hcut
    clear H5 HB D5;have H6:Hid (srcF (w.alloc (.cells Z21.toArray 41)) b a n cap l sB wc):=hcut
    clear hcut;go_wp2_with fail;refine (DC.out _ _ _ _ _ _ H6.out).mono ?_
    rintro o w7 ⟨s,rfl,h1,h2,h3,h4⟩;have HS:Hid (slSome s∧St (w.heap.size+1) w7 (fun W=>isHo W C.ho s)∧blk w7 w.heap.size Z21 41∧Below w.heap.size w w7):=⟨h2,h1.mono (by have:=H6.out.bel.size;simpa using this),(blk.new w Z21 41).below h3.bel,HW.out.trans (h3.bel.mono (by simp))⟩
    clear h1 h2 h3 h4 DC H6;go_wp2_with (refine sq41 HS.out.2.2.1 ?_;generalize hW8:World.setCells _ w.heap.size 0 _=w8;have HW8:Hid (World.setCells w7 w.heap.size 0 (coL C s)=w8):=hW8;clear hW8)
    have e8:=HW8.out
    have hF:blk w8 w.heap.size (coL C s) 41:=e8 ▸ (by simpa using blk.put [] Z21 [] (coL C s) (by simpa using HS.out.2.2.1) rfl)
    refine bodyPost_ret (results_cell_tmp Tryz.results25 _ w8 w.heap.size _ rfl (rq41 hF)) rfl ?_
    refine⟨s,rfl,?_,HS.out.1,?_⟩
    ·rw[← e8]
     exact St.setCells HS.out.2.1 _ _ (by omega) _
    ·rw[← e8]
     exact sW (nR _) _ _ HS.out.2.2.2
end Go.Proofs.YtkfcfigbgmbaiaaGreat
