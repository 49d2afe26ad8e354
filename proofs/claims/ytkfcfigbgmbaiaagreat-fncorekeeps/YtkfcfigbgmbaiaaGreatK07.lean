import Derived.Test.YtkfcfigbgmbaiaaGreatK03
import Derived.Test.YtkfcfigbgmbaiaaGreatK06
import Derived.Deep.RegionLaw
namespace Go.Proofs.YtkfcfigbgmbaiaaGreat
set_option maxRecDepth 20000
open Go.RowKit
set_option linter.unusedVariables false
set_option maxHeartbeats 16000000
open Go.Value renaming int→I,slice→sL,bool→bO,pointer→pT,agg→aG
open Go.IntKind renaming i64→J
open Go.Ending renaming returned→rT
open Go.Proofs.Tryz renaming prog→Tp
def gStep (l:List Nat) (p:List Nat × Sg):List Nat × Sg:=(p.1++[(gByte l p.2).1],(gByte l p.2).2)
def gData (l:List Nat) (m:Nat) (σ:Sg):List Nat × Sg:=Nat.rec ([],σ) (fun _ p=>gStep l p) m
theorem gData_zero (l:List Nat) (σ:Sg):gData l 0 σ=([],σ):=rfl
theorem gData_succ (l:List Nat) (σ:Sg) (m:Nat):gData l (m+1) σ=gStep l (gData l m σ):=rfl
theorem snocQ (p q:List Nat × Sg) (c:Nat) (τ σ:Sg) (m:Nat) (hg:c<256∧τ.1≤p.2.1+2) (h:p.1.length=m∧(∀ x ∈ p.1,x<256)∧p.2.1≤σ.1+2*m) (hq:q=(p.1++[c],τ)):q.1.length=m+1∧(∀ x ∈ q.1,x<256)∧q.2.1≤σ.1+2*(m+1):=by
 subst hq;obtain⟨h1,h2,h3⟩:=h
 refine⟨by simp[h1],fun x hx=>?_,by dsimp only;omega⟩
 rcases List.mem_append.1 hx with h|h
 ·exact h2 x h
 ·rw[List.mem_singleton.1 h];exact hg.1
theorem gData_ok (l:List Nat) (σ:Sg) (m:Nat):(gData l m σ).1.length=m∧(∀ x ∈ (gData l m σ).1,x<256)∧(gData l m σ).2.1≤σ.1+2*m:=by
 induction m with
 | zero=>rw[gData_zero];exact⟨rfl,(fun x hx=>absurd hx (List.not_mem_nil)),nR _⟩
 | succ m ih=>rw[gData_succ];exact snocQ (gData l m σ) _ _ _ σ m (gByte_lt l _) ih rfl
def dlN (r:Bool) (d:Nat):Nat:=if r then 0 else min d 8
theorem dl_N (r:Bool) (d:Nat):dl r (d:Int)=(dlN r d:Int):=by
 unfold dl dlN
 cases r
 ·simp only[Bool.false_eq_true,if_false];split <;> omega
 ·rfl
def gDlc (l:List Nat) (σ:Sg):Nat × Sg:=if nxV l (nxS l (nxS l (nxS l σ))) 6=0 then (nxV l (nxS l (nxS l (nxS l (nxS l σ)))) 16,nxS l (nxS l (nxS l (nxS l (nxS l σ))))) else (nxV l (nxS l (nxS l σ)) 9,nxS l (nxS l (nxS l (nxS l σ))))
def gFrame (l:List Nat) (σ:Sg):R5 × Sg:=
 (⟨((nxV l σ 2:Nat):Int) == 1,(gId l (((nxV l σ 2:Nat):Int) == 1) (gDlc l σ).2).1,((nxV l (nxS l σ) 4:Nat):Int) == 0,((gDlc l σ).1:Int),(gData l (dlN (((nxV l (nxS l σ) 4:Nat):Int) == 0) (gDlc l σ).1) (gId l (((nxV l σ 2:Nat):Int) == 1) (gDlc l σ).2).2).1⟩,
  (gData l (dlN (((nxV l (nxS l σ) 4:Nat):Int) == 0) (gDlc l σ).1) (gId l (((nxV l σ 2:Nat):Int) == 1) (gDlc l σ).2).2).2)
abbrev z5:List Value:=[bO false,I .u32 0,bO false,I J 0,sL none 0 0]
variable {w0 w W W' : World} {b : Nat} {a : Option Addr} {n cap : Nat} {l : List Nat} {σ σ' : Sg} {X id g k kc : Nat} {e r : Bool} {d : Int} {D : List Nat}
structure gfS (w0 w:World) (b:Nat) (a:Option Addr) (n cap:Nat) (l:List Nat) (σ:Sg) (X:Nat) (e:Bool) (id:Nat) (r:Bool) (d:Int) (g k kc:Nat) (D:List Nat) (W:World):Prop where
 s:srcF w0 b a n cap l σ W
 o:onS b w W
 z:blk W w.heap.size z5 55
 p:blk W (X+1) [bO e,I .u32 (id:Int),bO r,I J d,sL (some ⟨g,0,none⟩) k kc] 55
 x:w.heap.size<X∧b<w.heap.size∧X<W.heap.size
 row:W.ownsRow X 5 1 (sL (some ⟨g,0,none⟩) k kc) k (bv D)
 hg:g≠X+1
theorem gfS.on (h:gfS w0 w b a n cap l σ X e id r d g k kc D W) (hs:srcF w0 b a n cap l σ' W') (q:onS b W W'):gfS w0 w b a n cap l σ' X e id r d g k kc D W':=
 have hl:=World.ownsRow.lt h.row g rfl
 ⟨hs,h.o.trans q,h.z.kept (q.k _ (by have:=h.x;omega) h.z.lt),h.p.kept (q.k _ (by have:=h.x;omega) h.p.lt),⟨h.x.1,h.x.2.1,nL h.x.2.2 q.s⟩,oK h.row (q.k g (by have:=h.x;omega) hl.2),h.hg⟩
theorem gfS.below (h:gfS w0 w b a n cap l σ X e id r d g k kc D W) (q:Below W.heap.size W W'):gfS w0 w b a n cap l σ X e id r d g k kc D W':=h.on (h.s.below q) (onS.of q)
theorem onS.other {b q:Nat} {w W W':World} (h:onS b w W) (hq:w.heap.size≤q) (he:∀ x,x≠q→x<W.heap.size→W'.heap[x]?=W.heap[x]?) (hz:W.heap.size≤W'.heap.size) (ho:W'.os=W.os∧W'.tape=W.tape∧W'.output=W.output):onS b w W':=
 ⟨nT h.s hz,fun x h1 h2=>(he x (by omega) (nL h2 h.s)).trans (h.k x h1 h2),ho.1.trans h.o.1,ho.2.1.trans h.o.2.1,ho.2.2.trans h.o.2.2⟩
theorem srcF.other {q:Nat} (h:srcF w0 b a n cap l σ W) (hq:w0.heap.size≤q) (hb:b≠q) (he:∀ x,x≠q→x<W.heap.size→W'.heap[x]?=W.heap[x]?) (hz:W.heap.size≤W'.heap.size) (ho:W'.os=W.os∧W'.tape=W.tape∧W'.output=W.output):srcF w0 b a n cap l σ W':=
 ⟨h.at_.kept (he _ hb h.at_.lt),h.bel.trans ⟨ho.1,ho.2.1,ho.2.2,hz,fun x hx=>he x (by omega) (nL hx h.bel.size)⟩,h.by_,h.hb,h.hi⟩
theorem gfS.st (h:gfS w0 w b a n cap l σ X e id r d g k kc D W) (i:Nat) (v:Value):srcF w0 b a n cap l σ (W.setCell ⟨X+1,i,none⟩ v)∧onS b w (W.setCell ⟨X+1,i,none⟩ v)∧blk (W.setCell ⟨X+1,i,none⟩ v) w.heap.size z5 55∧blk (W.setCell ⟨X+1,i,none⟩ v) (X+1) ([bO e,I .u32 (id:Int),bO r,I J d,sL (some ⟨g,0,none⟩) k kc].set i v) 55∧(w.heap.size<X∧b<w.heap.size∧X<(W.setCell ⟨X+1,i,none⟩ v).heap.size)∧(∀ g' k' kc' D',W.ownsRow X 5 1 (sL (some ⟨g',0,none⟩) k' kc') k' (bv D')→g'≠X+1→(W.setCell ⟨X+1,i,none⟩ v).ownsRow X 5 1 (sL (some ⟨g',0,none⟩) k' kc') k' (bv D')):=by
 have he:∀ x,x≠X+1→(W.setCell ⟨X+1,i,none⟩ v).heap[x]?=W.heap[x]?:=fun x hx=>heap_setCell_other _ _ _ _ (by exact hx)
 have hx:=h.x
 have hb:=h.s.hb
 exact⟨h.s.other (by omega) (by omega) (fun x h1 _=>he x h1) (by simp) ⟨rfl,rfl,rfl⟩,h.o.other (by omega) (fun x h1 _=>he x h1) (by simp) ⟨rfl,rfl,rfl⟩,h.z.kept (he _ (by omega)),h.p.set i v,⟨h.x.1,h.x.2.1,by simpa using h.x.2.2⟩,fun g' k' kc' D' hr hg=>oK hr (he _ hg)⟩
theorem gfS.setD (h:gfS w0 w b a n cap l σ X e id r d g k kc D W) (d':Int):gfS w0 w b a n cap l σ X e id r d' g k kc D (W.setCell ⟨X+1,3,none⟩ (I J d')):=
 have q:=h.st 3 (I J d')
 ⟨q.1,q.2.1,q.2.2.1,q.2.2.2.1,q.2.2.2.2.1,q.2.2.2.2.2 _ _ _ _ h.row h.hg,h.hg⟩
theorem gfS.setI (h:gfS w0 w b a n cap l σ X e id r d g k kc D W) (id':Nat):gfS w0 w b a n cap l σ X e id' r d g k kc D (W.setCell ⟨X+1,1,none⟩ (I .u32 (id':Int))):=
 have q:=h.st 1 (I .u32 (id':Int))
 ⟨q.1,q.2.1,q.2.2.1,q.2.2.2.1,q.2.2.2.2.1,q.2.2.2.2.2 _ _ _ _ h.row h.hg,h.hg⟩
theorem gfS.app {g' k':Nat} {D':List Nat} (h:gfS w0 w b a n cap l σ X e id r d g k kc D W) (hG:W.grownBy W' (some g)) (hr:W'.ownsRow X 5 1 (sL (some ⟨g',0,none⟩) (k+1) k') (k+1) (bv D')) (hg':g'=g∨g'=W.heap.size) :
  blk W' (X+1) [bO e,I .u32 (id:Int),bO r,I J d,sL (some ⟨g,0,none⟩) k kc] 55∧gfS w0 w b a n cap l σ X e id r d g' (k+1) k' D' (W'.setCell ⟨X+1,4,none⟩ (sL (some ⟨g',0,none⟩) (k+1) k')):=by
 have hl:=World.ownsRow.lt h.row g rfl
 have hx:=h.x
 have hb:=h.s.hb
 have hp:=h.p.lt
 have hg:=h.hg
 have he:∀ x,x≠g→x<W.heap.size→W'.heap[x]?=W.heap[x]?:=fun x h1 h2=>hG.block x h2 (by intro e;cases e;exact h1 rfl)
 have p':=h.p.kept (he _ (by omega) hp)
 have h1:∀ x,x≠X+1→(W'.setCell ⟨X+1,4,none⟩ (sL (some ⟨g',0,none⟩) (k+1) k')).heap[x]?=W'.heap[x]?:=fun x hx=>heap_setCell_other _ _ _ _ (by exact hx)
 have s':=(h.s.other (by omega) (by omega) he hG.size ⟨hG.os,hG.tape,hG.output⟩).other (q:=X+1) (by omega) (by omega) (fun x h2 _=>h1 x h2) (by simp) ⟨rfl,rfl,rfl⟩
 have o':=(h.o.other (by omega) he hG.size ⟨hG.os,hG.tape,hG.output⟩).other (q:=X+1) (by omega) (fun x h2 _=>h1 x h2) (by simp) ⟨rfl,rfl,rfl⟩
 exact⟨p',s',o',(h.z.kept (he _ (by omega) h.z.lt)).kept (h1 _ (by omega)),p'.set 4 _,⟨hx.1,hx.2.1,by have:=hG.size;simp;omega⟩,oK hr (h1 _ (by omega)),by omega⟩
theorem ownsRow_low {w:World} {B B' E sz n:Nat} {v:Value} {xs:List Value} (h:w.ownsRow B E sz v n xs) (hB:B'≤B):w.ownsRow B' E sz v n xs:=⟨h.1,h.2.imp id fun ⟨g,c,cur,h1,h2,h3⟩=>⟨g,c,cur,h1,nT hB h2,h3⟩⟩
def frO (w0 w:World) (b:Nat) (a:Option Addr) (n cap:Nat) (l:List Nat) (p:R5 × Sg) (o:Ending) (w':World):Prop:=∃ g k,o = rT (frV p.1.e p.1.i p.1.r p.1.d (some ⟨g,0,none⟩) p.1.l.length k)∧(w.heap.size≤g∧g<w'.heap.size)∧St w.heap.size w' (fun W=>iB W (some ⟨g,0,none⟩) p.1.l.length k p.1.l)∧srcF w0 b a n cap l p.2 w'∧onS b w w'∧w'.ownsRow w.heap.size 5 1 (sL (some ⟨g,0,none⟩) p.1.l.length k) p.1.l.length (bv p.1.l)
theorem genFrame_f (h:srcF w0 b a n cap l σ w) (hi:σ.1+100≤1000000000) :
  Calls Tp 204 #[pT (some ⟨b,0,none⟩)] w (frO w0 w b a n cap l (gFrame l σ)):=by
 have HN:Hid (∀ (τ:Sg) (W:World) (k:Nat) (K:Int),srcF w0 b a n cap l τ W→K=(k:Int)→k≤1000→τ.1<1000000000→Calls Tp 60 #[pT (some ⟨b,0,none⟩),I J K] W fun o w'=>o = rT (I J (nxV l τ k:Int))∧srcF w0 b a n cap l (nxS l τ) w'∧onS b W w'):=fun τ W k K h1 h2 h3 h4=>n_g h1 k K h2 (by omega) h4
 have HR0:Hid (blk (w.alloc (.cells z5.toArray 55)) w.heap.size z5 55∧srcF w0 b a n cap l σ (w.alloc (.cells z5.toArray 55))∧onS b w (w.alloc (.cells z5.toArray 55))∧b<w.heap.size):=⟨blk.new w _ 55,h.below ((bW _ _).alloc (nR _) _),onS.of ((bW _ _).alloc (nR _) _),h.at_.lt⟩
 clear h;obtain⟨v1,e1⟩ : ∃ v,nxV l σ 2=v:=⟨_,rfl⟩
 obtain⟨v2,e2⟩ : ∃ v,nxV l (nxS l σ) 4=v:=⟨_,rfl⟩
 obtain⟨v3,e3⟩ : ∃ v,nxV l (nxS l (nxS l σ)) 9=v:=⟨_,rfl⟩
 obtain⟨e,he⟩ : ∃ e,((v1:Int) == 1)=e:=⟨_,rfl⟩
 obtain⟨r,hr⟩ : ∃ r,((v2:Int) == 0)=r:=⟨_,rfl⟩
 have HF:Hid (gFrame l σ=(⟨e,(gId l e (gDlc l σ).2).1,r,((gDlc l σ).1:Int),(gData l (dlN r (gDlc l σ).1) (gId l e (gDlc l σ).2).2).1⟩,(gData l (dlN r (gDlc l σ).1) (gId l e (gDlc l σ).2).2).2)):=by show _=_;unfold gFrame;rw[e1,e2,he,hr]
 have HD:Hid (∀ v4,nxV l (nxS l (nxS l (nxS l σ))) 6=v4→gDlc l σ=if v4=0 then (nxV l (nxS l (nxS l (nxS l (nxS l σ)))) 16,nxS l (nxS l (nxS l (nxS l (nxS l σ))))) else (v3,nxS l (nxS l (nxS l (nxS l σ))))):=fun v4 h=>by unfold gDlc;rw[h,e3]
 have E1:Hid (nxV l σ 2=v1∧nxV l (nxS l σ) 4=v2∧nxV l (nxS l (nxS l σ)) 9=v3):=⟨e1,e2,e3⟩
 clear e1 e2 e3;go_enter Tryz.func204,Tryz.ntmps204
 go_wp2_with fail;refine (HN.out _ _ 2 2 HR0.out.2.1 rfl (by decide) (by omega)).mono ?_
 rintro o w1 ⟨rfl,h1,k1⟩;rw[E1.out.1]
 have H1:Hid (srcF w0 b a n cap l (nxS l σ) w1∧onS b (w.alloc (.cells z5.toArray 55)) w1):=⟨h1,k1⟩
 clear h1 k1;go_wp2_with fail;refine (HN.out _ _ 4 4 H1.out.1 rfl (by decide) (by simp only[nxS_1];omega)).mono ?_
 rintro o w2 ⟨rfl,h1,k1⟩;rw[E1.out.2.1]
 have H2:Hid (srcF w0 b a n cap l (nxS l (nxS l σ)) w2∧onS b (w.alloc (.cells z5.toArray 55)) w2):=⟨h1,H1.out.2.trans k1⟩
 clear h1 k1;go_wp2_with fail;refine (HN.out _ _ 9 9 H2.out.1 rfl (by decide) (by simp only[nxS_1];omega)).mono ?_
 rintro o w3 ⟨rfl,h1,k1⟩;rw[E1.out.2.2]
 have H3:Hid (srcF w0 b a n cap l (nxS l (nxS l (nxS l σ))) w3∧onS b (w.alloc (.cells z5.toArray 55)) w3):=⟨h1,H2.out.2.trans k1⟩
 clear h1 k1;go_wp2_with fail;have hX:=nL HR0.out.1.lt H3.out.2.s
 have H4:gfS w0 w b a n cap l (nxS l (nxS l (nxS l σ))) w3.heap.size e 0 r v3 w3.heap.size 0 0 [] ((w3.alloc (.cells #[] 5)).alloc (.cells #[bO e,I .u32 0,bO r,I J (v3:Int),sL (some ⟨w3.heap.size,0,none⟩) 0 0] 55)):=by
  have hb2:Below w3.heap.size w3 ((w3.alloc (.cells #[] 5)).alloc (.cells #[bO e,I .u32 0,bO r,I J (v3:Int),sL (some ⟨w3.heap.size,0,none⟩) 0 0] 55)):=((bW _ _).alloc (nR _) _).alloc (by simp) _
  have hr:=HR0.out.1.kept (H3.out.2.k _ (by have:=HR0.out.2.2.2;omega) HR0.out.1.lt)
  refine⟨H3.out.1.below hb2,(HR0.out.2.2.1.trans H3.out.2).below hb2,hr.below hb2,by simpa using blk.new (w3.alloc (.cells #[] 5)) [bO e,I .u32 0,bO r,I J (v3:Int),sL (some ⟨w3.heap.size,0,none⟩) 0 0] 55,⟨hX,HR0.out.2.2.2,by simp;omega⟩,?_,by omega⟩
  exact oK (own_nil w3 w3.heap.size (nR _)) (Below.heap_alloc _ _ _ (by simp))
 clear hX H3 H2 H1 HR0;generalize (w3.alloc (.cells #[] 5)).alloc _=w4 at *;generalize w3.heap.size=X at *;have H4:Hid (gfS w0 w b a n cap l (nxS l (nxS l (nxS l σ))) X e 0 r v3 X 0 0 [] w4):=H4
 refine (HN.out _ _ 6 6 H4.out.s rfl (by decide) (by simp only[nxS_1];omega)).mono ?_
 rintro o w5 ⟨rfl,h1,k1⟩;have H5:Hid (gfS w0 w b a n cap l (nxS l (nxS l (nxS l (nxS l σ)))) X e 0 r v3 X 0 0 [] w5):=H4.out.on h1 k1
 obtain⟨v4,e4⟩ : ∃ v,nxV l (nxS l (nxS l (nxS l σ))) 6=v:=⟨_,rfl⟩
 have HD:=HD.out v4 e4
 rw[e4]
 clear h1 k1 e4 H4;go_upto_if 18 with fail
 go_cut [] (fun wx=>gfS w0 w b a n cap l (gDlc l σ).2 X e 0 r ((gDlc l σ).1:Int) X 0 0 [] wx)
 case first=>
  by_cases v0:v4=0
  ·rw[if_pos v0] at HD
   have HDD:Hid (gDlc l σ=(nxV l (nxS l (nxS l (nxS l (nxS l σ)))) 16,nxS l (nxS l (nxS l (nxS l (nxS l σ)))))):=HD
   subst v0;clear HD;go_wp2_with (refine (HN.out _ _ 16 16 H5.out.s rfl (by decide) (by simp only[nxS_1];omega)).mono ?_;rintro o w6 ⟨rfl,h1,k1⟩;have H6:Hid (gfS w0 w b a n cap l (nxS l (nxS l (nxS l (nxS l (nxS l σ))))) X e 0 r v3 X 0 0 [] w6):=H5.out.on h1 k1;have y3:=H6.out.p.cell 3 _ rfl;have f3:=H6.out.p.free 3;clear h1 k1)
   go_meet
   case rel=>rw[HDD.out];exact H6.out.setD _
  ·have e0:((v4:Int) == 0)=false:=by simp;omega
   rw[if_neg v0] at HD
   have HDD:Hid (gDlc l σ=(v3,nxS l (nxS l (nxS l (nxS l σ))))):=HD
   clear HD v0;go_wp2_with fail;go_meet
   case rel=>rw[HDD.out];exact H5.out
 case rest=>
  have HDI:Hid ((gDlc l σ).2.1≤σ.1+5∧(gDlc l σ).1≤16):=by
   show _∧_
   have h9:=nxV_lt l (nxS l (nxS l σ)) (k:=9) (by decide)
   rw[HD]
   have h16:=nxV_lt l (nxS l (nxS l (nxS l (nxS l σ)))) (k:=16) (by decide)
   rw[E1.out.2.2] at h9
   split
   ·exact⟨by simp only[nxS_1];omega,by dsimp only;omega⟩
   ·exact⟨by simp only[nxS_1];omega,by dsimp only;omega⟩
  clear HD H5 E1 he hr HN;obtain⟨dn,hdn⟩ : ∃ x,(gDlc l σ).1=x:=⟨_,rfl⟩
  obtain⟨τ,hτ⟩ : ∃ x,(gDlc l σ).2=x:=⟨_,rfl⟩
  rw[hdn,hτ] at hcut HF HDI
  clear hdn hτ;have H6:Hid (gfS w0 w b a n cap l τ X e 0 r (dn:Int) X 0 0 [] wc):=hcut
  have y0:=hcut.p.cell 0 _ rfl
  clear hcut;go_wp2_with fail;refine (genId_f H6.out.s e (by have:=HDI.out;omega)).mono ?_
  rintro o w7 ⟨rfl,h1,k1⟩;have hid:=(gIdT_lt (topN e) (by unfold topN;cases e <;> decide) l τ).2
  have hid:Hid ((gId l e τ).2.1≤σ.1+7):=nT hid (by have:=HDI.out;omega)
  obtain⟨id,hI⟩ : ∃ x,(gId l e τ).1=x:=⟨_,rfl⟩
  obtain⟨υ,hυ⟩ : ∃ x,(gId l e τ).2=x:=⟨_,rfl⟩
  rw[hI,hυ] at HF
  rw[hυ] at h1 hid
  rw[hI]
  have H7:Hid (gfS w0 w b a n cap l υ X e 0 r (dn:Int) X 0 0 [] w7):=H6.out.on h1 k1
  have y1:=H7.out.p.cell 1 _ rfl
  have f1:=H7.out.p.free 1
  clear h1 k1 hI hυ H6 y0;have H8:Hid (gfS w0 w b a n cap l υ X e id r (dn:Int) X 0 0 [] (w7.setCell ⟨X+1,1,none⟩ (I .u32 (id:Int)))):=H7.out.setI id
  go_upto_region 5 with fail
  generalize w7.setCell _ _=w8 at *;clear y1 f1 H7;go_wp2_with (first | (refine lq55 H8.out.p.load ?_))
  refine (specDataLen_any w8 e id r (dn:Int) _ _ _).mono ?_
  rintro o w9 ⟨rfl,h9⟩;rw[dl_N]
  have H9:Hid (gfS w0 w b a n cap l υ X e id r (dn:Int) X 0 0 [] w9):=h9 ▸ H8.out.below ((bW _ _).alloc (nR _) _)
  have hm:dlN r dn≤8:=by unfold dlN;split <;> omega
  clear H8 h9;generalize dlN r dn=m at *;go_wp2_with fail;go_loopw [5] (fun t wr=>∃ k g kc:Nat,k≤m∧t = I J (k:Int)∧gfS w0 w b a n cap l (gData l k υ).2 X e id r (dn:Int) g k kc (gData l k υ).1 wr) (fun t _=>m-(intOf t).toNat)
  case atStart=>exact⟨0,X,0,nZ _,rfl,H9.out⟩
  case round=>
   clear H9;obtain⟨k,g,kc,hk,rfl,hg⟩:=hrel
   by_cases hlt:k<m
   ·have HOK:=gData_ok l υ k
    have HSU:=gData_succ l υ k
    unfold gStep at HSU
    obtain⟨D,hD⟩ : ∃ x,(gData l k υ).1=x:=⟨_,rfl⟩
    obtain⟨τ',hτ⟩ : ∃ x,(gData l k υ).2=x:=⟨_,rfl⟩
    rw[hD,hτ] at HSU HOK hg
    have HB:Hid (∀ W,srcF w0 b a n cap l τ' W→Calls Tp 223 #[pT (some ⟨b,0,none⟩)] W fun o w'=>o = rT (I .u8 ((gByte l τ').1:Int))∧srcF w0 b a n cap l (gByte l τ').2 w'∧onS b W w'):=fun W hW=>genByte_f hW (by have:=HOK.2.2;have:=hid.out;omega)
    have hc:=(gByte_lt l τ').1
    obtain⟨c,hC⟩ : ∃ x,(gByte l τ').1=x:=⟨_,rfl⟩
    obtain⟨ρ,hρ⟩ : ∃ x,(gByte l τ').2=x:=⟨_,rfl⟩
    rw[hC] at HB hc HSU
    rw[hρ] at HB HSU
    have HE:Hid (gData l (k+1) υ=(D++[c],ρ)):=HSU
    have HG:Hid (gfS w0 w b a n cap l τ' X e id r (dn:Int) g k kc D wr):=hg
    have HL:Hid (D.length=k):=HOK.1
    have y4:=hg.p.cell 4 _ rfl
    clear hg HSU HOK hD hτ hC hρ;go_wp2_with fail;go_region_law
     (first
      | (go_simp;go_at_call 223;refine (HB.out _ (HG.out.below (bW _ _).drew).s).mono ?_;rintro o w10 ⟨rfl,h1,k1⟩;have H10:Hid (gfS w0 w b a n cap l ρ X e id r (dn:Int) g k kc D w10):=(HG.out.below (bW _ _).drew).on h1 k1;have H11:Hid (gfS w0 w b a n cap l ρ X e id r (dn:Int) g k kc D (w10.alloc (.cells #[I .u8 (c:Int)] 5))):=H10.out.below ((bW _ _).alloc (nR _) _);have y5:=H10.out.p.cell 4 _ rfl;have y6:=H11.out.p.cell 4 _ rfl;clear h1 k1;go_wp2_with fail)
      | (refine wp_app_rec (.tmp 35) (.tmp 38) 50 5 _ 1 1 Tryz.info5 Tryz.underlying50 rfl (by decide) (by decide) (by rfl) X g k kc (bv D) (by rfl) H11.out.row w10.heap.size [I .u8 (c:Int)] (by rfl) rfl (blk.new w10 [I .u8 (c:Int)] 5) (by simp[Value.oneCell']) (by omega) (by have:=H11.out.x;omega) ?_;intro g' k' w11 ho6 hg6 hg' hB6;have hq:=H11.out.app (D':=D++[c]) hg6 (by rw[bv_append];exact ho6) hg';have xq:=hq.1.cell 4 _ rfl;have fq:=hq.1.free 4;have H12:Hid (gfS w0 w b a n cap l ρ X e id r (dn:Int) g' (k+1) k' (D++[c]) (w11.setCell ⟨X+1,4,none⟩ (sL (some ⟨g',0,none⟩) (k+1) k'))):=hq.2;clear hq ho6 hg6 hg' hB6))
    all_goals
     clear xq fq y4 y5 y6;go_wp2_with fail;go_roundw
     case rel=>exact⟨k+1,g',k',by omega,by go_num,by rw[HE.out];exact H12.out⟩
     case measure=>simp[intOf];omega
   ·have hkm:m=k:=by omega
    subst hkm;have HOK:=gData_ok l υ m
    have HG:Hid (gfS w0 w b a n cap l (gData l m υ).2 X e id r (dn:Int) g m kc (gData l m υ).1 wr):=hg
    obtain⟨g2,k2,hv,hX,hg2,hbt⟩:=ownsB_bytes (B:=X) (v:=sL (some ⟨g,0,none⟩) m kc) (l:=(gData l m υ).1) (by show wr.ownsRow _ _ _ _ _ _;rw[HOK.1];exact hg.row) (by intro e;cases e) HOK.2.1
    obtain⟨rfl,rfl⟩ : g=g2∧kc=k2:=by simp at hv;exact⟨hv.1,hv.2.2⟩
    clear hv;have HBT:Hid (X≤g∧g<wr.heap.size∧St X wr (fun W=>iB W (some ⟨g,0,none⟩) (gData l m υ).1.length kc (gData l m υ).1)):=⟨hX,hg2,hbt⟩
    have HLE:Hid ((gData l m υ).1.length=m):=HOK.1
    clear hg hX hg2 hbt HOK hlt hk;go_wp2_with (first
     | (refine lq55 HG.out.p.load ?_)
     | (refine wpList_store_mid (P:=Tp) rfl 55 (.tmp 2) (.tmp 41) rfl w.heap.size 0 _ rfl rfl (HG.out.z.there 0 5 (by simp)) sz93 (all_oneCell_toArray (by simp[Value.oneCell'])) ?_;generalize hW8:World.setCells wr w.heap.size 0 _=w8;have HW8:Hid (World.setCells wr w.heap.size 0 [bO e,I .u32 (id:Int),bO r,I J (dn:Int),sL (some ⟨g,0,none⟩) m kc]=w8):=hW8;clear hW8))
    have e8:=HW8.out
    have hF:blk w8 w.heap.size [bO e,I .u32 (id:Int),bO r,I J (dn:Int),sL (some ⟨g,0,none⟩) m kc] 55:=e8 ▸ (by simpa using blk.put [] z5 [] [bO e,I .u32 (id:Int),bO r,I J (dn:Int),sL (some ⟨g,0,none⟩) m kc] (by simpa using HG.out.z) rfl)
    refine bC Tryz.results204 (run_loadVar_mid (P:=Tp) w8 w.heap.size 0 55 _ _ hF.load Tryz.underlying55 rfl sz93) ?_
    have o8:∀ q,q≠w.heap.size→w8.heap[q]?=wr.heap[q]?:=fun q hq=>by rw[← e8];exact sO _ q hq _ _ _
    have z8:w8.heap.size=wr.heap.size:=by rw[← e8];exact sZ ..
    have i8:w8.os=wr.os∧w8.tape=wr.tape∧w8.output=wr.output:=by rw[← e8];have:=sW (B:=0) (nZ w.heap.size) 0 [bO e,I .u32 (id:Int),bO r,I J (dn:Int),sL (some ⟨g,0,none⟩) m kc] (bW 0 wr);exact⟨this.os,this.tape,this.output⟩
    have hx:=HG.out.x
    have hs:=HG.out.s.hb
    rw[HF.out]
    show frO _ _ _ _ _ _ _ _ _ _
    refine⟨g,kc,by dsimp only;rw[HLE.out],⟨by have:=HBT.out.1;omega,by have:=HBT.out.2.1;omega⟩,fun W hW=>HBT.out.2.2 W (fun x h1 h2=>(hW x (by omega) (by omega)).trans (o8 x (by omega))),HG.out.s.other (q:=w.heap.size) (by omega) (by omega) (fun x h1 _=>o8 x h1) (by omega) i8,HG.out.o.other (q:=w.heap.size) (nR _) (fun x h1 _=>o8 x h1) (by omega) i8,?_⟩
    have hr:=oK HG.out.row (o8 g (by have:=HBT.out.1;omega))
    dsimp only
    rw[HLE.out]
    exact ownsRow_low hr (by omega)
variable {w0 w W W' : World} {b : Nat} {a : Option Addr} {n cap : Nat} {l : List Nat} {σ σ' : Sg} {T P : Nat} {Z L : List Value} {Q : World → Prop}
theorem gDlc_lt (l:List Nat) (σ:Sg):(gDlc l σ).2.1≤σ.1+5:=by
 have h1:=nxS_1 l σ
 have h2:=nxS_1 l (nxS l σ)
 have h3:=nxS_1 l (nxS l (nxS l σ))
 have h4:=nxS_1 l (nxS l (nxS l (nxS l σ)))
 have h5:=nxS_1 l (nxS l (nxS l (nxS l (nxS l σ))))
 unfold gDlc
 generalize nxV l (nxS l (nxS l (nxS l σ))) 6=v
 generalize nxV l _ 16=v
 generalize nxV l _ 9=v
 generalize nxS l (nxS l (nxS l (nxS l (nxS l σ))))=s5 at *;generalize nxS l (nxS l (nxS l (nxS l σ)))=s4 at *;generalize nxS l (nxS l (nxS l σ))=s3 at *;generalize nxS l (nxS l σ)=s2 at *;generalize nxS l σ=s1 at *;split <;> dsimp only <;> omega
theorem gId_lt (l:List Nat) (σ:Sg) (e:Bool):(gId l e σ).2.1≤σ.1+2:=by
 unfold gId
 exact (gIdT_lt (topN e) (by unfold topN;split <;> decide) l σ).2
theorem pr2 {α β:Type} (x:α) (y:β):(x,y).2=y:=rfl
theorem gFrame_2 (l:List Nat) (σ:Sg):∃ e r,(gFrame l σ).2=(gData l (dlN r (gDlc l σ).1) (gId l e (gDlc l σ).2).2).2:=⟨((nxV l σ 2:Nat):Int) == 1,((nxV l (nxS l σ) 4:Nat):Int) == 0,by unfold gFrame;exact pr2 _ _⟩
theorem gFrame_lt (l:List Nat) (σ:Sg):(gFrame l σ).2.1≤σ.1+25:=by
 obtain⟨e,r,h⟩:=gFrame_2 l σ
 have h3:=gDlc_lt l σ
 have h2:=gId_lt l (gDlc l σ).2 e
 have h4:dlN r (gDlc l σ).1≤8:=by unfold dlN;split <;> omega
 have h1:=(gData_ok l (gId l e (gDlc l σ).2).2 (dlN r (gDlc l σ).1)).2.2
 rw[h]
 exact nT h1 (by omega)
theorem pr5l {α:Type} (e:Bool) (i:Nat) (r:Bool) (d:Int) (D:List Nat) (y:α):((⟨e,i,r,d,D⟩ : R5),y).1.l=D:=rfl
theorem gFrame_l (l:List Nat) (σ:Sg):∃ r τ,(gFrame l σ).1.l=(gData l (dlN r (gDlc l σ).1) τ).1:=⟨((nxV l (nxS l σ) 4:Nat):Int) == 0,(gId l (((nxV l σ 2:Nat):Int) == 1) (gDlc l σ).2).2,by unfold gFrame;exact pr5l _ _ _ _ _ _⟩
theorem gFrame_len (l:List Nat) (σ:Sg):(gFrame l σ).1.l.length≤8:=by
 obtain⟨r,τ,h⟩:=gFrame_l l σ
 rw[h,(gData_ok l τ _).1]
 unfold dlN
 split <;> omega
structure gV (T:Nat) (Z:List Value) (Q:World→Prop) (w0 w:World) (b:Nat) (a:Option Addr) (n cap:Nat) (l:List Nat) (σ:Sg) (P:Nat) (L:List Value) (W:World):Prop where
 s:srcF w0 b a n cap l σ W
 o:onS b w W
 z:blk W w.heap.size Z T
 p:blk W P L T
 x:w.heap.size<P∧b<w.heap.size
 y:∀ W',(∀ x,x≠P→w.heap.size<x→x<W.heap.size→W'.heap[x]?=W.heap[x]?)→Q W'
theorem gV.on (h:gV T Z Q w0 w b a n cap l σ P L W) (hs:srcF w0 b a n cap l σ' W') (q:onS b W W'):gV T Z Q w0 w b a n cap l σ' P L W':=
 ⟨hs,h.o.trans q,h.z.kept (q.k _ (by have:=h.x;omega) h.z.lt),h.p.kept (q.k _ (by have:=h.x;omega) h.p.lt),h.x,fun V hV=>h.y V (fun x h1 h2 h4=>(hV x h1 h2 (nL h4 q.s)).trans (q.k x (by have:=h.x;omega) h4))⟩
theorem gV.below (h:gV T Z Q w0 w b a n cap l σ P L W) (q:Below W.heap.size W W'):gV T Z Q w0 w b a n cap l σ P L W':=h.on (h.s.below q) (onS.of q)
theorem gV.set (h:gV T Z Q w0 w b a n cap l σ P L W) (i:Nat) (v:Value):gV T Z Q w0 w b a n cap l σ P (L.set i v) (W.setCell ⟨P,i,none⟩ v):=by
 have he:∀ x,x≠P→(W.setCell ⟨P,i,none⟩ v).heap[x]?=W.heap[x]?:=fun x hx=>heap_setCell_other _ _ _ _ (by exact hx)
 have hx:=h.x
 have hb:=h.s.hb
 exact⟨h.s.other (q:=P) (by omega) (by omega) (fun x h1 _=>he x h1) (by simp) ⟨rfl,rfl,rfl⟩,h.o.other (q:=P) (by omega) (fun x h1 _=>he x h1) (by simp) ⟨rfl,rfl,rfl⟩,h.z.kept (he _ (by omega)),h.p.set i v,hx,fun V hV=>h.y V (fun x h1 h2 h4=>(hV x h1 h2 (by simpa using h4)).trans (he x h1))⟩
theorem gV.fin {W8:World} (h:gV T Z Q w0 w b a n cap l σ P L W) (hl:Z.length=L.length) (e8:W.setCells w.heap.size 0 L=W8):blk W8 w.heap.size L T∧srcF w0 b a n cap l σ W8∧onS b w W8∧St w.heap.size W8 Q:=by
 have o8:∀ q,q≠w.heap.size→W8.heap[q]?=W.heap[q]?:=fun q hq=>by rw[← e8];exact sO _ q hq _ _ _
 have z8:W8.heap.size=W.heap.size:=by rw[← e8];exact sZ ..
 have i8:W8.os=W.os∧W8.tape=W.tape∧W8.output=W.output:=by rw[← e8];have:=sW (B:=0) (nZ w.heap.size) 0 L (bW 0 W);exact⟨this.os,this.tape,this.output⟩
 have hx:=h.x
 have hb:=h.s.hb
 refine⟨e8 ▸ (by simpa using blk.put [] Z [] L (by simpa using h.z) hl),h.s.other (q:=w.heap.size) (by omega) (by omega) (fun x h1 _=>o8 x h1) (by omega) i8,h.o.other (q:=w.heap.size) (nR _) (fun x h1 _=>o8 x h1) (by omega) i8,fun V hV=>h.y V (fun x h1 h2 h4=>(hV x (by omega) (by omega)).trans (o8 x (by omega)))⟩
theorem gV.new {σ0:Sg} {w1:World} (h:srcF w0 b a n cap l σ0 w) (Z L:List Value) (T:Nat) (h3:srcF w0 b a n cap l σ w1) (h4:onS b (w.alloc (.cells Z.toArray T)) w1) (hQ:St (w.heap.size+1) w1 Q):gV T Z Q w0 w b a n cap l σ w1.heap.size L (w1.alloc (.cells L.toArray T)):=by
 have hb2:Below w1.heap.size w1 (w1.alloc (.cells L.toArray T)):=(bW _ _).alloc (nR _) _
 have hb1:Below w.heap.size w (w.alloc (.cells Z.toArray T)):=(bW _ _).alloc (nR _) _
 have hl:=h.at_.lt
 have hz:=blk.new w Z T
 have hs:=h4.s
 exact⟨h3.below hb2,((onS.of hb1).trans h4).below hb2,(hz.kept (h4.k _ (by omega) hz.lt)).below hb2,blk.new w1 L T,⟨by have:=hz.lt;omega,hl⟩,fun V hV=>hQ V fun k h1 h2=>(hV k (by omega) (by omega) (by simp;omega)).trans (hb2.block k h2)⟩
structure frQ (B:Nat) (D:List Nat) (k g:Nat) (W:World):Prop where
 by_:iB W (some ⟨g,0,none⟩) D.length k D
 lt:g<W.heap.size
 own:W.ownsRow B 5 1 (sL (some ⟨g,0,none⟩) D.length k) D.length (bv D)
theorem frQ.of {B B' g k:Nat} {D:List Nat} {w1:World} (h1:B≤g∧g<w1.heap.size) (h2:St B w1 (fun W=>iB W (some ⟨g,0,none⟩) D.length k D)) (h3:w1.ownsRow B 5 1 (sL (some ⟨g,0,none⟩) D.length k) D.length (bv D)) (hB:B'≤B):St B w1 (frQ B' D k g):=fun W hW=>by
 have h:=hW g h1.1 h1.2
 refine⟨h2 W hW,?_,ownsRow_low (oK h3 h) hB⟩
 rw[Array.getElem?_eq_getElem h1.2] at h
 exact (Array.getElem?_eq_some_iff.1 h).1
abbrev l5 (R:R5) (g k:Nat):List Value:=[bO R.e,I .u32 (R.i:Int),bO R.r,I J R.d,sL (some ⟨g,0,none⟩) R.l.length k]
theorem gV.frO {R:R5} {k g:Nat} {W8:World} (h:gV 55 z5 (frQ w.heap.size R.l k g) w0 w b a n cap l σ P (l5 R g k) W) (hg:w.heap.size≤g) (e8:W.setCells w.heap.size 0 (l5 R g k)=W8):blk W8 w.heap.size (l5 R g k) 55∧frO w0 w b a n cap l (R,σ) (rT (frV R.e R.i R.r R.d (some ⟨g,0,none⟩) R.l.length k)) W8:=by
 have q:=h.fin rfl e8
 exact⟨q.1,g,k,rfl,⟨hg,q.2.2.2.now.lt⟩,fun W hW=>(q.2.2.2 W hW).by_,q.2.1,q.2.2.1,q.2.2.2.now.own⟩
theorem genSmall_f (l:List Nat) (σ:Sg) (hi:σ.1+200≤1000000000):∃ p:R5 × Sg,p.2.1≤σ.1+30∧p.1.l.length≤8∧∀ (w0 w:World) (b:Nat) (a:Option Addr) (n cap:Nat),srcF w0 b a n cap l σ w →
  Calls Tp 167 #[pT (some ⟨b,0,none⟩)] w (frO w0 w b a n cap l p):=by
 have hb:=gFrame_lt l σ
 have hln:=gFrame_len l σ
 have HC:Hid (∀ (w0:World) (b:Nat) (a:Option Addr) (n cap:Nat) W,srcF w0 b a n cap l σ W→Calls Tp 204 #[pT (some ⟨b,0,none⟩)] W (frO w0 W b a n cap l (gFrame l σ))):=fun w0 b a n cap W hW=>genFrame_f hW (by omega)
 obtain⟨⟨R,τ⟩,hp⟩ : ∃ x,gFrame l σ=x:=⟨_,rfl⟩
 rw[hp] at HC hb hln
 dsimp only at hb hln
 clear hp;have HN:Hid (∀ (w0:World) (b:Nat) (a:Option Addr) (n cap:Nat) (W:World),srcF w0 b a n cap l τ W→Calls Tp 60 #[pT (some ⟨b,0,none⟩),I J 2] W fun o w'=>o = rT (I J (nxV l τ 2:Int))∧srcF w0 b a n cap l (nxS l τ) w'∧onS b W w'):=fun w0 b a n cap W h=>n_g h 2 2 rfl (by omega) (by omega)
 have HM:Hid (∀ (w0:World) (b:Nat) (a:Option Addr) (n cap:Nat) (W:World),srcF w0 b a n cap l (nxS l τ) W→Calls Tp 60 #[pT (some ⟨b,0,none⟩),I J 6] W fun o w'=>o = rT (I J (nxV l (nxS l τ) 6:Int))∧srcF w0 b a n cap l (nxS l (nxS l τ)) w'∧onS b W w'):=fun w0 b a n cap W h=>n_g h 6 6 rfl (by omega) (by rw[nxS_1];omega)
 have hu:=nxV_lt l (nxS l τ) (k:=6) (by decide)
 have h1:=nxS_1 l τ
 have h2:=nxS_1 l (nxS l τ)
 obtain⟨v,hv⟩ : ∃ v,nxV l τ 2=v:=⟨_,rfl⟩
 obtain⟨u,hw⟩ : ∃ v,nxV l (nxS l τ) 6=v:=⟨_,rfl⟩
 rw[hv] at HN
 rw[hw] at HM hu
 obtain⟨τ2,h4⟩ : ∃ x,nxS l (nxS l τ)=x:=⟨_,rfl⟩
 obtain⟨τ1,h3⟩ : ∃ x,nxS l τ=x:=⟨_,rfl⟩
 rw[h4] at HM h2
 rw[h3] at HM HN h1 h2
 clear hv hw h3 h4;obtain⟨e,he⟩ : ∃ e,((v:Int) == 0)=e:=⟨_,rfl⟩
 have hI:IntKind.u32.wrap (u:Int)=(u:Int):=by rw[IntKind.wrap_u32];omega
 obtain⟨R',hR⟩ : ∃ R':R5,R'=if e then ⟨R.e,u,R.r,R.d,R.l⟩ else R:=⟨_,rfl⟩
 obtain⟨τ',hτ⟩ : ∃ τ':Sg,τ'=if e then τ2 else τ1:=⟨_,rfl⟩
 have HE:Hid (R'=(if e then ⟨R.e,u,R.r,R.d,R.l⟩ else R)∧τ'=if e then τ2 else τ1):=⟨hR,hτ⟩
 refine⟨(R',τ'),by cases e <;> simp[hτ] <;> omega,by rw[hR];cases e <;> exact hln,fun w0 w b a n cap h=>?_⟩
 clear hR hτ;have HC:=HC.out w0 b a n cap
 have HC:Hid (∀ W,srcF w0 b a n cap l σ W→Calls Tp 204 #[pT (some ⟨b,0,none⟩)] W (frO w0 W b a n cap l (R,τ))):=HC
 have HR:Hid (srcF w0 b a n cap l σ w):=h
 clear h;go_enter Tryz.func167,Tryz.ntmps167
 go_wp2_with fail;refine (HC.out _ (HR.out.below ((bW _ _).alloc (nR _) _))).mono ?_
 rintro o w1 ⟨g,k,rfl,h1,h2,h3,h4,h5⟩;have H1:Hid (∀ L,gV 55 z5 (frQ w.heap.size R.l k g) w0 w b a n cap l τ w1.heap.size L (w1.alloc (.cells L.toArray 55))):=fun L=>gV.new HR.out z5 L 55 h3 h4 (by have:=frQ.of h1 h2 h5 (B':=w.heap.size) (by simp);simpa using this)
 have hg:Hid (w.heap.size≤g):=by have:=h1.1;simp at this;show _≤_;omega
 clear HR HC h1 h2 h3 h4 h5;unfold frV
 go_wp2_with fail;have H1:Hid (gV 55 z5 (frQ w.heap.size R.l k g) w0 w b a n cap l τ w1.heap.size (l5 R g k) (w1.alloc (.cells (l5 R g k).toArray 55))):=H1.out _
 refine (HN.out _ _ _ _ _ _ H1.out.s).mono ?_
 rintro o w2 ⟨rfl,h1,k1⟩;have H2:Hid (gV 55 z5 (frQ w.heap.size R.l k g) w0 w b a n cap l τ1 w1.heap.size (l5 R g k) w2):=H1.out.on h1 k1
 clear H1 h1 k1 HN;generalize w1.heap.size=P at *;go_upto_if 8 with fail
 go_cut [] (fun wx=>gV 55 z5 (frQ w.heap.size R'.l k g) w0 w b a n cap l τ' P (l5 R' g k) wx)
 case first=>
  cases e
  ·obtain⟨rfl,rfl⟩ : R'=R∧τ'=τ1:=HE.out
   go_wp2_with fail;go_meet
   case rel=>exact H2.out
  ·obtain⟨hR,hτ⟩ : R'=⟨R.e,u,R.r,R.d,R.l⟩∧τ'=τ2:=HE.out
   subst hR hτ;go_wp2_with (refine (HM.out _ _ _ _ _ _ H2.out.s).mono ?_;rintro o w3 ⟨rfl,h1,k1⟩;have H3:Hid (gV 55 z5 (frQ w.heap.size R.l k g) w0 w b a n cap l τ' P (l5 R g k) w3):=H2.out.on h1 k1;have y1:=H3.out.p.cell 1 _ rfl;have f1:=H3.out.p.free 1;clear h1 k1)
   go_meet
   case rel=>exact H3.out.set 1 _
 case rest=>
  clear H2 HM HE;have HG:Hid (gV 55 z5 (frQ w.heap.size R'.l k g) w0 w b a n cap l τ' P (l5 R' g k) wc):=hcut
  clear hcut;go_wp2_with (first
   | (refine lq55 HG.out.p.load ?_)
   | (refine wpList_store_mid (P:=Tp) rfl 55 (.tmp 2) (.tmp 13) rfl w.heap.size 0 _ rfl rfl (HG.out.z.there 0 5 (by simp)) sz93 (all_oneCell_toArray (by simp[Value.oneCell'])) ?_;generalize hW8:World.setCells wc w.heap.size 0 _=w8;have HW8:Hid (World.setCells wc w.heap.size 0 (l5 R' g k)=w8):=hW8;clear hW8))
  have q:=HG.out.frO hg.out HW8.out
  exact bC Tryz.results167 (run_loadVar_mid (P:=Tp) w8 w.heap.size 0 55 _ _ q.1.load Tryz.underlying55 rfl sz93) q.2
def dr (f:Nat) (args:List Value) (l:List Nat) (σ:Sg) (v:Value) (τ:Sg):Prop:=Hid (∀ (w0 w:World) (b:Nat) (a:Option Addr) (n cap:Nat),srcF w0 b a n cap l σ w→Calls Tp f (pT (some ⟨b,0,none⟩) :: args).toArray w fun o w'=>o = rT v∧srcF w0 b a n cap l τ w'∧onS b w w')
theorem nE (l:List Nat) (σ:Sg) (k:Nat) (K:Int) (hK:K=(k:Int)) (h0:0<k) (hk:k≤1000000000) (hi:σ.1<1000000000):∃ (v:Nat) (τ:Sg),v<k∧τ.1=σ.1+1∧dr 60 [I J K] l σ (I J (v:Int)) τ:=
 ⟨nxV l σ k,nxS l σ,nxV_lt l σ h0,nxS_1 l σ,fun w0 w b a n cap h=>n_g h k K hK hk hi⟩
theorem idE (l:List Nat) (σ:Sg) (e:Bool) (hi:σ.1+10≤1000000000):∃ (v:Nat) (τ:Sg),v<topN e∧τ.1≤σ.1+2∧dr 222 [bO e] l σ (I .u32 (v:Int)) τ:=
 ⟨(gId l e σ).1,(gId l e σ).2,(gIdT_lt (topN e) (by unfold topN;split <;> decide) l σ).1,gId_lt l σ e,fun w0 w b a n cap h=>genId_f h e hi⟩
theorem gV.call {T P f:Nat} {Z L args:List Value} {Q:World→Prop} {w0 w W:World} {b:Nat} {a:Option Addr} {n cap:Nat} {l:List Nat} {σ τ:Sg} {v:Value} (D:dr f args l σ v τ) (h:gV T Z Q w0 w b a n cap l σ P L W):Calls Tp f (pT (some ⟨b,0,none⟩) :: args).toArray W fun o w'=>o = rT v∧Hid (gV T Z Q w0 w b a n cap l τ P L w'):=
 (D.out _ _ _ _ _ _ h.s).mono fun _ _ q=>⟨q.1,h.on q.2.1 q.2.2⟩
abbrev z3:List Value:=[bO false,I .u32 0,I .u32 0]
abbrev l3 (F:R3):List Value:=[bO F.e,I .u32 F.m,I .u32 F.k]
abbrev tw:World→Prop:=fun _=>True
theorem sz164:(Tp.info? 164).map (·.size)=some 3:=by kernel_rfl
structure okR3 (F:R3):Prop where
 m:0≤F.m∧F.m<topN F.e
 k:0≤F.k∧F.k<topN F.e
theorem topN_2 (e:Bool):2048≤topN e∧topN e≤536870912:=by unfold topN;cases e <;> decide
theorem genFilter_f (l:List Nat) (σ:Sg) (hi:σ.1+200≤1000000000):∃ (F:R3) (τ:Sg),okR3 F∧τ.1≤σ.1+10∧dr 221 [] l σ (aG (l3 F).toArray) τ:=by
 obtain⟨v1,s1,_,q1,D1⟩:=nE l σ 2 2 rfl (by decide) (by decide) (by omega)
 obtain⟨e,he⟩ : ∃ e,((v1:Int) == 1)=e:=⟨_,rfl⟩
 obtain⟨i1,s2,p2,q2,D2⟩:=idE l s1 e (by omega)
 obtain⟨i2,s3,p3,q3,D3⟩:=idE l s2 e (by omega)
 obtain⟨v4,s4,_,q4,D4⟩:=nE l s3 2 2 rfl (by decide) (by decide) (by omega)
 obtain⟨v5,s5,p5,q5,D5⟩:=nE l s4 4 4 rfl (by decide) (by decide) (by omega)
 obtain⟨c,hc⟩ : ∃ e,((v4:Int) == 0)=e:=⟨_,rfl⟩
 have hT:=topN_2 e
 obtain⟨m,hm⟩ : ∃ m,m=if c then v5 else i1:=⟨_,rfl⟩
 obtain⟨τ,hτ⟩ : ∃ τ,τ=if c then s5 else s4:=⟨_,rfl⟩
 have hm2:m<topN e:=by rw[hm];split <;> omega
 have hτ2:τ.1≤σ.1+10:=by rw[hτ];split <;> omega
 have HE:Hid (m=(if c then v5 else i1)∧τ=if c then s5 else s4):=⟨hm,hτ⟩
 refine⟨⟨e,m,i2⟩,τ,⟨⟨by dsimp only;omega,by dsimp only;omega⟩,⟨by dsimp only;omega,by dsimp only;omega⟩⟩,hτ2,fun w0 w b a n cap h=>?_⟩
 have HR:Hid (srcF w0 b a n cap l σ w):=h
 have HP:Hid (i1<4294967296∧v5<4294967296):=⟨by omega,by omega⟩
 clear h hm hτ hm2 hτ2 q1 q2 q3 q4 q5 p2 p3 hT;go_enter Tryz.func221,Tryz.ntmps221
 go_wp2_with fail;refine (D1.out _ _ _ _ _ _ (HR.out.below ((bW _ _).alloc (nR _) _))).mono ?_
 rintro o w1 ⟨rfl,h1,k1⟩;have H1:Hid (∀ L,gV 164 z3 tw w0 w b a n cap l s1 w1.heap.size L (w1.alloc (.cells L.toArray 164))):=fun L=>gV.new HR.out z3 L 164 h1 k1 (fun _ _=>trivial)
 clear HR D1 h1 k1;go_upto_region 2 with fail
 have H1:Hid (gV 164 z3 tw w0 w b a n cap l s1 w1.heap.size [bO e,I .u32 0,I .u32 0] (w1.alloc (.cells #[bO e,I .u32 0,I .u32 0] 164))):=H1.out _
 generalize w1.alloc _=w2 at *;generalize w1.heap.size=P at *;have y0:=H1.out.p.cell 0 _ rfl
 go_wp2_with fail;refine (gV.call D2 H1.out).mono ?_
 rintro o w3 ⟨rfl,H2⟩;have y1:=H2.out.p.cell 1 _ rfl
 have f1:=H2.out.p.free 1
 clear H1 y0 D2;go_upto_region 3 with fail
 have H3:Hid (gV 164 z3 tw w0 w b a n cap l s2 P [bO e,I .u32 (i1:Int),I .u32 0] (w3.setCell ⟨P,1,none⟩ (I .u32 (i1:Int)))):=H2.out.set 1 _
 generalize w3.setCell _ _=w4 at *;clear y1 f1 H2;have y0:=H3.out.p.cell 0 _ rfl
 go_wp2_with fail;refine (gV.call D3 H3.out).mono ?_
 rintro o w5 ⟨rfl,H4⟩;have y2:=H4.out.p.cell 2 _ rfl
 have f2:=H4.out.p.free 2
 clear H3 y0 D3;go_upto_region 4 with fail
 have H5:Hid (gV 164 z3 tw w0 w b a n cap l s3 P [bO e,I .u32 (i1:Int),I .u32 (i2:Int)] (w5.setCell ⟨P,2,none⟩ (I .u32 (i2:Int)))):=H4.out.set 2 _
 generalize w5.setCell _ _=w6 at *;clear y2 f2 H4;go_wp2_with fail;refine (gV.call D4 H5.out).mono ?_
 rintro o w7 ⟨rfl,H6⟩;clear H5 D4;go_upto_if 20 with fail
 go_cut [] (fun wx=>gV 164 z3 tw w0 w b a n cap l τ P (l3 ⟨e,m,i2⟩) wx)
 case first=>
  cases c
  ·obtain⟨rfl,rfl⟩ : m=i1∧τ=s4:=HE.out
   go_wp2_with fail;go_meet
   case rel=>exact H6.out
  ·obtain⟨rfl,rfl⟩ : m=v5∧τ=s5:=HE.out
   have hI:IntKind.u32.wrap (m:Int)=(m:Int):=by rw[IntKind.wrap_u32];have:=HP.out;omega
   go_wp2_with (refine (gV.call D5 H6.out).mono ?_;rintro o w8 ⟨rfl,H7⟩;have y1:=H7.out.p.cell 1 _ rfl;have f1:=H7.out.p.free 1)
   go_meet
   case rel=>exact H7.out.set 1 _
 case rest=>
  clear H6 HE HP D5;have HG:Hid (gV 164 z3 tw w0 w b a n cap l τ P (l3 ⟨e,m,i2⟩) wc):=hcut
  clear hcut;go_wp2_with (first
   | (refine wpList_load_mid (P:=Tp) rfl 164 (.tmp 3) rfl P 0 rfl _ _ HG.out.p.load Tryz.underlying164 rfl sz164 ?_)
   | (refine wpList_store_mid (P:=Tp) rfl 164 (.tmp 2) (.tmp 25) rfl w.heap.size 0 _ rfl rfl (HG.out.z.there 0 3 (by simp)) sz164 (all_oneCell_toArray (by simp[Value.oneCell'])) ?_;generalize hW8:World.setCells wc w.heap.size 0 _=w8;have HW8:Hid (World.setCells wc w.heap.size 0 (l3 ⟨e,m,i2⟩)=w8):=hW8;clear hW8))
  have q:=HG.out.fin rfl HW8.out
  exact bC Tryz.results221 (run_loadVar_mid (P:=Tp) w8 w.heap.size 0 164 _ _ q.1.load Tryz.underlying164 rfl sz164) ⟨rfl,q.2.1,q.2.2.1⟩
structure oS (w0 u:World) (b:Nat) (a:Option Addr) (n cap:Nat) (l:List Nat) (σ:Sg) (W:World):Prop where
 s:srcF w0 b a n cap l σ W
 o:onS b u W
theorem oS.call {f:Nat} {args:List Value} {w0 u W:World} {b:Nat} {a:Option Addr} {n cap:Nat} {l:List Nat} {σ τ:Sg} {v:Value} (D:dr f args l σ v τ) (h:oS w0 u b a n cap l σ W):Calls Tp f (pT (some ⟨b,0,none⟩) :: args).toArray W fun o w'=>o = rT v∧Hid (oS w0 u b a n cap l τ w'):=
 (D.out _ _ _ _ _ _ h.s).mono fun _ _ q=>⟨q.1,q.2.1,h.o.trans q.2.2⟩
abbrev z4:List Value:=[I J 0,I J 0,I J 0,I J 0]
abbrev l4 (a b c d:Int):List Value:=[I J a,I J b,I J c,I J d]
theorem sz33:(Tp.info? 33).map (·.size)=some 4:=by kernel_rfl
theorem genConfig_f (l:List Nat) (σ:Sg) (hi:σ.1+200≤1000000000):∃ (A B C D:Int) (τ:Sg),((1≤A∧A≤8)∧(1≤B∧B≤16)∧(C=0∨C=1)∧1≤D∧D≤32)∧τ.1≤σ.1+10∧dr 198 [] l σ (aG (l4 A B C D).toArray) τ:=by
 obtain⟨v1,s1,p1,q1,D1⟩:=nE l σ 4 4 rfl (by decide) (by decide) (by omega)
 obtain⟨v2,s2,p2,q2,D2⟩:=nE l s1 3 3 rfl (by decide) (by decide) (by omega)
 obtain⟨v3,s3,p3,q3,D3⟩:=nE l s2 2 2 rfl (by decide) (by decide) (by omega)
 obtain⟨v4,s4,p4,q4,D4⟩:=nE l s3 29 29 rfl (by decide) (by decide) (by omega)
 obtain⟨v5,s5,p5,q5,D5⟩:=nE l s4 5 5 rfl (by decide) (by decide) (by omega)
 obtain⟨v6,s6,p6,q6,D6⟩:=nE l s5 5 5 rfl (by decide) (by decide) (by omega)
 obtain⟨v7,s7,p7,q7,D7⟩:=nE l s6 5 5 rfl (by decide) (by decide) (by omega)
 obtain⟨v8,s8,p8,q8,D8⟩:=nE l s7 3 3 rfl (by decide) (by decide) (by omega)
 obtain⟨c5,hc5⟩ : ∃ e,((v5:Int) == 0)=e:=⟨_,rfl⟩
 obtain⟨c6,hc6⟩ : ∃ e,((v6:Int) == 0)=e:=⟨_,rfl⟩
 obtain⟨c7,hc7⟩ : ∃ e,((v7:Int) == 0)=e:=⟨_,rfl⟩
 obtain⟨A,hA⟩ : ∃ m,m=if c5 then (8:Int) else 1+v1:=⟨_,rfl⟩
 obtain⟨B,hB⟩ : ∃ m,m=if c6 then (16:Int) else 1+v2:=⟨_,rfl⟩
 obtain⟨D,hD⟩ : ∃ m,m=if c7 then (1:Int)+v8 else 4+v4:=⟨_,rfl⟩
 obtain⟨τ,hτ⟩ : ∃ τ,τ=if c7 then s8 else s7:=⟨_,rfl⟩
 have HE:Hid (A=(if c5 then (8:Int) else 1+v1)∧B=(if c6 then (16:Int) else 1+v2)∧D=(if c7 then (1:Int)+v8 else 4+v4)∧τ=if c7 then s8 else s7):=⟨hA,hB,hD,hτ⟩
 refine⟨A,B,v3,D,τ,⟨by rw[hA];split <;> omega,by rw[hB];split <;> omega,by omega,by rw[hD];split <;> omega⟩,by rw[hτ];split <;> omega,fun w0 w b a n cap h=>?_⟩
 have HR:Hid (srcF w0 b a n cap l σ w):=h
 clear h hA hB hD hτ q1 q2 q3 q4 q5 q6 q7 q8;go_enter Tryz.func198,Tryz.ntmps198
 go_wp2_with fail;have H0:Hid (oS w0 (w.alloc (.cells z4.toArray 33)) b a n cap l σ (w.alloc (.cells z4.toArray 33))):=⟨HR.out.below ((bW _ _).alloc (nR _) _),onS.refl _ _⟩
 refine (oS.call D1 H0.out).mono ?_
 rintro o w1 ⟨rfl,H1⟩;clear H0 D1;go_wp2_with fail;refine (oS.call D2 H1.out).mono ?_
 rintro o w2 ⟨rfl,H2⟩;clear H1 D2;go_wp2_with fail;refine (oS.call D3 H2.out).mono ?_
 rintro o w3 ⟨rfl,H3⟩;clear H2 D3;go_wp2_with fail;refine (oS.call D4 H3.out).mono ?_
 rintro o w4 ⟨rfl,H4⟩;clear H3 D4;go_upto_region 2 with fail
 have H5:Hid (gV 33 z4 tw w0 w b a n cap l s4 w4.heap.size (l4 (1+v1) (1+v2) v3 (4+v4)) (w4.alloc (.cells (l4 (1+v1) (1+v2) v3 (4+v4)).toArray 33))):=gV.new HR.out z4 _ 33 H4.out.s H4.out.o (fun _ _=>trivial)
 clear HR H4;generalize w4.alloc _=w5 at *;generalize w4.heap.size=P at *;go_wp2_with fail;refine (gV.call D5 H5.out).mono ?_
 rintro o w6 ⟨rfl,H6⟩;clear H5 D5;go_upto_if 18 with fail
 go_cut [] (fun wx=>gV 33 z4 tw w0 w b a n cap l s5 P (l4 A (1+v2) v3 (4+v4)) wx)
 case first=>
  have y0:=H6.out.p.cell 0 _ rfl
  have f0:=H6.out.p.free 0
  have hA:=HE.out.1
  cases c5
  all_goals
   subst hA;go_wp2_with fail;go_meet
   case rel=>first | exact H6.out | exact H6.out.set 0 _
 case rest=>
  clear H6;have H6:Hid (gV 33 z4 tw w0 w b a n cap l s5 P (l4 A (1+v2) v3 (4+v4)) wc):=hcut
  clear hcut;go_wp2_with fail;refine (gV.call D6 H6.out).mono ?_
  rintro o w7 ⟨rfl,H7⟩;clear H6 D6;go_upto_if 22 with fail
  go_cut [] (fun wx=>gV 33 z4 tw w0 w b a n cap l s6 P (l4 A B v3 (4+v4)) wx)
  case first=>
   have y0:=H7.out.p.cell 1 _ rfl
   have f0:=H7.out.p.free 1
   have hA:=HE.out.2.1
   cases c6
   all_goals
    subst hA;go_wp2_with fail;go_meet
    case rel=>first | exact H7.out | exact H7.out.set 1 _
  case rest=>
   clear H7;have H7:Hid (gV 33 z4 tw w0 w b a n cap l s6 P (l4 A B v3 (4+v4)) wc):=hcut
   clear hcut;go_wp2_with fail;refine (gV.call D7 H7.out).mono ?_
   rintro o w8 ⟨rfl,H8⟩;clear H7 D7;go_upto_if 26 with fail
   go_cut [] (fun wx=>gV 33 z4 tw w0 w b a n cap l τ P (l4 A B v3 D) wx)
   case first=>
    cases c7
    ·obtain⟨hD,hτ⟩ : D=4+v4∧τ=s7:=HE.out.2.2
     subst hD hτ;go_wp2_with fail;go_meet
     case rel=>exact H8.out
    ·obtain⟨hD,hτ⟩ : D=1+v8∧τ=s8:=HE.out.2.2
     subst hD hτ;go_wp2_with (refine (gV.call D8 H8.out).mono ?_;rintro o w9 ⟨rfl,H9⟩;have y3:=H9.out.p.cell 3 _ rfl;have f3:=H9.out.p.free 3)
     go_meet
     case rel=>exact H9.out.set 3 _
   case rest=>
    have HG:Hid (gV 33 z4 tw w0 w b a n cap l τ P (l4 A B v3 D) wc):=hcut
    clear hcut H8 HE D8;go_wp2_with (first
     | (refine wpList_load_mid (P:=Tp) rfl 33 (.tmp 3) rfl P 0 rfl _ _ HG.out.p.load Tryz.underlying33 rfl sz33 ?_)
     | (refine wpList_store_mid (P:=Tp) rfl 33 (.tmp 2) (.tmp 31) rfl w.heap.size 0 _ rfl rfl (HG.out.z.there 0 4 (by simp)) sz33 (all_oneCell_toArray (by simp[Value.oneCell'])) ?_;generalize hW8:World.setCells wc w.heap.size 0 _=w8;have HW8:Hid (World.setCells wc w.heap.size 0 (l4 A B v3 D)=w8):=hW8;clear hW8))
    have q:=HG.out.fin rfl HW8.out
    exact bC Tryz.results198 (run_loadVar_mid (P:=Tp) w8 w.heap.size 0 33 _ _ q.1.load Tryz.underlying33 rfl sz33) ⟨rfl,q.2.1,q.2.2.1⟩
theorem seqE {α:Type} (R:Sg→α→Sg→Prop) (c:Nat) (H:∀ σ:Sg,σ.1+200≤1000000000→∃ x τ,τ.1≤σ.1+c∧R σ x τ) (s:Sg) (m:Nat) (hs:s.1+c*m+200≤1000000000) :
  ∃ (F:Nat→α) (S:Nat→Sg),S 0=s∧(∀ k,k≤m→(S k).1≤s.1+c*k)∧∀ k,k<m→R (S k) (F k) (S (k+1)):=by
 obtain⟨x0,_⟩:=H s (by omega)
 have H':∀ σ:Sg,∃ p:α × Sg,σ.1+200≤1000000000→p.2.1≤σ.1+c∧R σ p.1 p.2:=fun σ=>by
  by_cases h:σ.1+200≤1000000000
  ·obtain⟨x,τ,h1,h2⟩:=H σ h
   exact⟨(x,τ),fun _=>⟨h1,h2⟩⟩
  ·exact⟨(x0,σ),fun g=>absurd g h⟩
 obtain⟨f,hf⟩:=Classical.axiomOfChoice H'
 obtain⟨S,h0,hS⟩ : ∃ S:Nat→Sg,S 0=s∧∀ k,S (k+1)=(f (S k)).2:=⟨fun k=>Nat.rec s (fun _ σ=>(f σ).2) k,rfl,fun _=>rfl⟩
 have hb:∀ k,k≤m→(S k).1≤s.1+c*k:=by
  intro k;induction k with
  | zero=>intro _;rw[h0];exact nR _
  | succ k ih=>
   intro h;have h1:=ih (by omega)
   have h2:c*k≤c*m:=Nat.mul_le_mul_left c (by omega)
   have h3:=(hf (S k) (by omega)).1
   rw[hS,Nat.mul_succ]
   omega
 refine⟨fun k=>(f (S k)).1,S,h0,hb,fun k hk=>?_⟩
 have h2:c*k≤c*m:=Nat.mul_le_mul_left c (by omega)
 have h1:=hb k (by omega)
 rw[hS]
 exact (hf (S k) (by omega)).2
variable {w0 w W W' : World} {b : Nat} {a : Option Addr} {n cap : Nat} {l : List Nat} {σ σ' : Sg} {g k kc : Nat} {fs : List R3}
structure fsS (w0 w:World) (b:Nat) (a:Option Addr) (n cap:Nat) (l:List Nat) (σ:Sg) (g k kc:Nat) (fs:List R3) (W:World):Prop where
 s:srcF w0 b a n cap l σ W
 o:onS b w W
 row:W.ownsRow w.heap.size 164 3 (sL (some ⟨g,0,none⟩) k kc) k (c3 fs)
 hb:b<w.heap.size
theorem fsS.on (h:fsS w0 w b a n cap l σ g k kc fs W) (hs:srcF w0 b a n cap l σ' W') (q:onS b W W'):fsS w0 w b a n cap l σ' g k kc fs W':=
 have hl:=World.ownsRow.lt h.row g rfl
 ⟨hs,h.o.trans q,oK h.row (q.k g (by have:=h.hb;omega) hl.2),h.hb⟩
theorem fsS.below (h:fsS w0 w b a n cap l σ g k kc fs W) (q:Below W.heap.size W W'):fsS w0 w b a n cap l σ g k kc fs W':=h.on (h.s.below q) (onS.of q)
theorem fsS.call {f:Nat} {args:List Value} {v:Value} (D:dr f args l σ v σ') (h:fsS w0 w b a n cap l σ g k kc fs W):Calls Tp f (pT (some ⟨b,0,none⟩) :: args).toArray W fun o w'=>o = rT v∧Hid (fsS w0 w b a n cap l σ' g k kc fs w'):=
 (D.out _ _ _ _ _ _ h.s).mono fun _ _ q=>⟨q.1,h.on q.2.1 q.2.2⟩
theorem fsS.app {g' k':Nat} {fs':List R3} (h:fsS w0 w b a n cap l σ g k kc fs W) (hG:W.grownBy W' (some g)) (hr:W'.ownsRow w.heap.size 164 3 (sL (some ⟨g',0,none⟩) (k+1) k') (k+1) (c3 fs')):fsS w0 w b a n cap l σ g' (k+1) k' fs' W':=by
 have hl:=World.ownsRow.lt h.row g rfl
 have hb:=h.hb
 have hs:=h.s.hb
 have he:∀ x,x≠g→x<W.heap.size→W'.heap[x]?=W.heap[x]?:=fun x h1 h2=>hG.block x h2 (by intro e;cases e;exact h1 rfl)
 exact⟨h.s.other (q:=g) (by omega) (by omega) he hG.size ⟨hG.os,hG.tape,hG.output⟩,h.o.other (q:=g) (by omega) he hG.size ⟨hG.os,hG.tape,hG.output⟩,hr,hb⟩
theorem own_nil3 (w:World):(w.alloc (.cells #[] 164)).ownsRow w.heap.size 164 3 (sL (some ⟨w.heap.size,0,none⟩) 0 0) 0 (c3 []):=World.ownsRow_made w #[] 0 (nR _) (by decide) rfl
def fsO (w0 w:World) (b:Nat) (a:Option Addr) (n cap:Nat) (l:List Nat) (fs:List R3) (τ:Sg) (o:Ending) (w':World):Prop:=∃ g k,o = rT (sL (some ⟨g,0,none⟩) fs.length k)∧St w.heap.size w' (fun W=>isR3s W (some ⟨g,0,none⟩) fs.length k fs)∧srcF w0 b a n cap l τ w'∧onS b w w'
theorem fsS.out (h:fsS w0 w b a n cap l σ g k kc fs W) (hk:k=fs.length):fsO w0 w b a n cap l fs σ (rT (sL (some ⟨g,0,none⟩) k kc)) W:=by
 obtain⟨g2,k2,hv,h1,h2,h3,h4,h5⟩:=c3_owns hk h.row (by intro e;cases e)
 obtain⟨rfl,rfl⟩ : g=g2∧kc=k2:=by simp at hv;exact hv
 subst hk;exact⟨g,kc,rfl,h5,h.s,h.o⟩
theorem genFilters_f (l:List Nat) (σ:Sg) (hi:σ.1+1000≤1000000000):∃ (fs:List R3) (τ:Sg),fs.length≤16∧(∀ F ∈ fs,okR3 F)∧τ.1≤σ.1+200∧∀ (w0 w:World) (b:Nat) (a:Option Addr) (n cap:Nat),srcF w0 b a n cap l σ w →
  Calls Tp 199 #[pT (some ⟨b,0,none⟩)] w (fsO w0 w b a n cap l fs τ):=by
 obtain⟨v1,s1,p1,q1,D1⟩:=nE l σ 2 2 rfl (by decide) (by decide) (by omega)
 by_cases v0:v1=0
 ·refine⟨[],s1,by simp,by simp,by omega,fun w0 w b a n cap h=>?_⟩
  have HR:Hid (srcF w0 b a n cap l σ w):=h
  have H0:Hid (fsS w0 w b a n cap l σ w.heap.size 0 0 [] (w.alloc (.cells #[] 164))):=⟨h.below ((bW _ _).alloc (nR _) _),onS.of ((bW _ _).alloc (nR _) _),own_nil3 w,h.at_.lt⟩
  subst v0;clear h;go_enter Tryz.func199,Tryz.ntmps199
  go_wp2_with (refine (fsS.call D1 H0.out).mono ?_;rintro o w1 ⟨rfl,H1⟩)
  go_ret;exact H1.out.out rfl
 ·obtain⟨v2,s2,p2,q2,D2⟩:=nE l s1 3 3 rfl (by decide) (by decide) (by omega)
  obtain⟨v3,s3,p3,q3,D3⟩:=nE l s2 8 8 rfl (by decide) (by decide) (by omega)
  obtain⟨e,he⟩ : ∃ e,((v3:Int) == 0)=e:=⟨_,rfl⟩
  obtain⟨m,hm⟩ : ∃ m,m=if e then 16 else 1+v2:=⟨_,rfl⟩
  have HE:Hid (m=if e then 16 else 1+v2):=hm
  have hm2:m≤16:=by rw[hm];split <;> omega
  obtain⟨F,S,h0,hS,hF⟩:=seqE (fun s F t=>okR3 F∧dr 221 [] l s (aG (l3 F).toArray) t) 10 (fun σ h=>by obtain⟨F,τ,h1,h2,h3⟩:=genFilter_f l σ h;exact⟨F,τ,h2,h1,h3⟩) s3 m (by omega)
  refine⟨(List.range m).map F,S m,by simp;exact hm2,fun X hX=>?_,by have:=hS m (nR _);omega,fun w0 w b a n cap h=>?_⟩
  ·obtain⟨i,hi,rfl⟩:=List.mem_map.1 hX
   exact (hF i (List.mem_range.1 hi)).1
  have HR:Hid (srcF w0 b a n cap l σ w):=h
  have H0:Hid (fsS w0 w b a n cap l σ w.heap.size 0 0 [] (w.alloc (.cells #[] 164))):=⟨h.below ((bW _ _).alloc (nR _) _),onS.of ((bW _ _).alloc (nR _) _),own_nil3 w,h.at_.lt⟩
  have e1:((v1:Int) == 0)=false:=by simp;omega
  have HF:Hid (∀ k,k<m→okR3 (F k)∧dr 221 [] l (S k) (aG (l3 (F k)).toArray) (S (k+1))):=hF
  have HS0:Hid (S 0=s3):=h0
  clear h hm q1 q2 q3 hF hS h0;go_enter Tryz.func199,Tryz.ntmps199
  go_wp2_with fail;refine (fsS.call D1 H0.out).mono ?_
  rintro o w1 ⟨rfl,H1⟩;clear H0 D1;go_wp2_with fail;refine (fsS.call D2 H1.out).mono ?_
  rintro o w2 ⟨rfl,H2⟩;clear H1 D2;go_wp2_with fail;refine (fsS.call D3 H2.out).mono ?_
  rintro o w3 ⟨rfl,H3⟩;clear H2 D3;go_upto_if 16 with fail
  go_cut [4] (fun t wx=>t = I J (m:Int)∧wx=w3)
  case first=>
   have hE:=HE.out
   cases e
   all_goals
    subst hE;go_wp2_with fail;go_meet
    case rel=>exact⟨by first | rfl | (congr 1),rfl⟩
  case rest=>
   obtain⟨rfl,hw⟩:=hcut
   have hw:=hw.symm
   subst hw;clear HE HR;go_wp2_with fail;go_loopw [3,5] (fun t u wr=>∃ k g kc:Nat,k≤m∧u = I J (k:Int)∧t = sL (some ⟨g,0,none⟩) k kc∧fsS w0 w b a n cap l (S k) g k kc ((List.range k).map F) wr) (fun _ u _=>m-(intOf u).toNat)
   case atStart=>exact⟨0,w.heap.size,0,nZ _,rfl,rfl,by rw[HS0.out];exact H3.out⟩
   case round=>
    clear H3;obtain⟨k,g,kc,hk,rfl,rfl,hg⟩:=hrel
    by_cases hlt:k<m
    ·have HG:Hid (fsS w0 w b a n cap l (S k) g k kc ((List.range k).map F) wr):=hg
     have DF:=(HF.out k hlt).2
     have HC:Hid (c3 ((List.range k).map F)++l3 (F k)=c3 ((List.range (k+1)).map F)):=by show _=_;rw[List.range_succ,List.map_append];simp[c3]
     clear hg HF;go_wp2_with fail;refine (fsS.call DF HG.out).mono ?_
     rintro o w4 ⟨rfl,H4⟩;have H5:Hid (fsS w0 w b a n cap l (S (k+1)) g k kc ((List.range k).map F) (w4.alloc (.cells (l3 (F k)).toArray 164))):=H4.out.below ((bW _ _).alloc (nR _) _)
     go_wp2_with (first
      | (at_builtin;refine app_rec rfl (.tmp 22) (.tmp 25) 34 164 _ 3 12 Tryz.info164 Tryz.underlying34 rfl (by decide) (by decide) rfl w.heap.size g k kc _ rfl H5.out.row w4.heap.size (l3 (F k)) rfl rfl (blk.new w4 (l3 (F k)) 164) (by simp[Value.oneCell']) (by omega) (by have:=H5.out.o.s;simp at this ⊢;omega) ?_;intro g' k' w6 ho6 hg6 hg' hB6;rw[HC.out] at ho6;have H6:Hid (fsS w0 w b a n cap l (S (k+1)) g' (k+1) k' ((List.range (k+1)).map F) w6):=H5.out.app hg6 ho6;clear ho6 hg6 hg' hB6 H5 H4 HG))
     go_roundw
     case rel=>exact⟨k+1,g',k',by omega,by go_num,rfl,H6.out⟩
     case measure=>simp[intOf];omega
    ·have hkm:m=k:=by omega
     subst hkm;have HG:Hid (fsS w0 w b a n cap l (S m) g m kc ((List.range m).map F) wr):=hg
     clear hg;go_wp2_with fail;go_ret;exact HG.out.out (by simp)
theorem size_f (l:List Nat) (σ:Sg):dr 200 [] l σ (I J (l.length:Int)) σ:=fun w0 w b a n cap h=>by
 have c0:=h.at_.cell 0 _ rfl
 have hn:(n:Int)=(l.length:Int):=by rw[h.by_.len]
 have HR:Hid (srcF w0 b a n cap l σ w):=h
 clear h;go_enter Tryz.func200,Tryz.ntmps200
 go_wp2
 go_ret;exact⟨rfl,HR.out,onS.refl _ _⟩
theorem genRec_f (l:List Nat) (σ:Sg) (hi:σ.1+200≤1000000000):∃ (v:Nat) (τ:Sg),v≤255∧τ.1≤σ.1+2∧dr 165 [] l σ (I J (v:Int)) τ:=by
 obtain⟨v,s1,p1,q1,D1⟩:=nE l σ 6 6 rfl (by decide) (by decide) (by omega)
 have H1:∀ {w0 w b a n cap},srcF w0 b a n cap l σ w→Hid (oS w0 w b a n cap l σ w):=fun h=>⟨h,onS.refl _ _⟩
 by_cases v0:v=0
 ·refine⟨0,s1,by omega,by omega,fun w0 w b a n cap h=>?_⟩
  have H0:=H1 h
  subst v0;clear h H1;go_enter Tryz.func165,Tryz.ntmps165
  go_wp2_with (refine (oS.call D1 H0.out).mono ?_;rintro o w1 ⟨rfl,H1⟩)
  go_ret;exact⟨rfl,H1.out.s,H1.out.o⟩
 have e0:((v:Int) == 0)=false:=by simp;omega
 by_cases v1:v=1
 ·obtain⟨u,s2,p2,q2,D2⟩:=nE l s1 16 16 rfl (by decide) (by decide) (by omega)
  refine⟨120+u,s2,by omega,by omega,fun w0 w b a n cap h=>?_⟩
  have H0:=H1 h
  subst v1;clear h H1;go_enter Tryz.func165,Tryz.ntmps165
  go_wp2_with (first | (refine (oS.call D1 H0.out).mono ?_;rintro o w1 ⟨rfl,H1⟩;clear H0) | (refine (oS.call D2 H1.out).mono ?_;rintro o w2 ⟨rfl,H2⟩))
  go_ret;exact⟨by simp,H2.out.s,H2.out.o⟩
 have e1:((v:Int) == 1)=false:=by simp;omega
 by_cases v2:v=2
 ·obtain⟨u,s2,p2,q2,D2⟩:=nE l s1 10 10 rfl (by decide) (by decide) (by omega)
  refine⟨246+u,s2,by omega,by omega,fun w0 w b a n cap h=>?_⟩
  have H0:=H1 h
  subst v2;clear h H1;go_enter Tryz.func165,Tryz.ntmps165
  go_wp2_with (first | (refine (oS.call D1 H0.out).mono ?_;rintro o w1 ⟨rfl,H1⟩;clear H0) | (refine (oS.call D2 H1.out).mono ?_;rintro o w2 ⟨rfl,H2⟩))
  go_ret;exact⟨by simp,H2.out.s,H2.out.o⟩
 have e2:((v:Int) == 2)=false:=by simp;omega
 by_cases v3:v=3
 ·obtain⟨u,s2,p2,q2,D2⟩:=nE l s1 256 256 rfl (by decide) (by decide) (by omega)
  refine⟨u,s2,by omega,by omega,fun w0 w b a n cap h=>?_⟩
  have H0:=H1 h
  subst v3;clear h H1;go_enter Tryz.func165,Tryz.ntmps165
  go_wp2_with (first | (refine (oS.call D1 H0.out).mono ?_;rintro o w1 ⟨rfl,H1⟩;clear H0) | (refine (oS.call D2 H1.out).mono ?_;rintro o w2 ⟨rfl,H2⟩))
  go_ret;exact⟨rfl,H2.out.s,H2.out.o⟩
 have e3:((v:Int) == 3)=false:=by simp;omega
 obtain⟨u,s2,p2,q2,D2⟩:=nE l s1 20 20 rfl (by decide) (by decide) (by omega)
 refine⟨u,s2,by omega,by omega,fun w0 w b a n cap h=>?_⟩
 have H0:=H1 h
 clear h H1 v0 v1 v2 v3;go_enter Tryz.func165,Tryz.ntmps165
 go_wp2_with (first | (refine (oS.call D1 H0.out).mono ?_;rintro o w1 ⟨rfl,H1⟩;clear H0) | (refine (oS.call D2 H1.out).mono ?_;rintro o w2 ⟨rfl,H2⟩))
 go_ret;exact⟨rfl,H2.out.s,H2.out.o⟩
end Go.Proofs.YtkfcfigbgmbaiaaGreat
