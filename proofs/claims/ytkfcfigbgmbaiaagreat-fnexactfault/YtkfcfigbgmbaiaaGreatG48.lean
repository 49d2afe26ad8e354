import Derived.Test.YtkfcfigbgmbaiaaGreatG47
import Derived.Deep.DeepCutAuto
namespace Go.Proofs.YtkfcfigbgmbaiaaGreat
open Go.RowKit
set_option linter.unusedVariables false
def k41 (T:Nat) (w w':World):Prop:=∀ q L,T≤q→blk w q L 41→blk w' q L 41
theorem k41.trans {T:Nat} {w w' w'':World} (h:k41 T w w') (h':k41 T w' w''):k41 T w w'':=fun q L hq hb=>h' q L hq (h q L hq hb)
theorem k41.below {T:Nat} {w w':World} (h:Below w.heap.size w w'):k41 T w w':=fun q L _ hb=>hb.below h
theorem coL_nb (C:Co) (s:Sl) (j:Int):Value.int .u8 j ∉ coL C s:=by
 unfold coL
 simp
theorem Z21_nb (j:Int):Value.int .u8 j ∉ Z21:=by
 unfold Z21
 simp
theorem rowQ8.neT {B T g n k:Nat} {bs:List R8} {W:World} (h:rowQ8 B T 67 g n k bs W) {x:Nat} {L:List Value} (hx:blk W x L 41):g≠x:=by
 obtain⟨rs,ho,_⟩:=h
 rcases ho.own.2 with⟨e,_⟩|⟨g1,cap,cur,hv',hb,hgg,_⟩
 ·cases e
 cases hv'
 rintro rfl
 unfold blk at hx
 rw[hgg] at hx
 injection hx with hx
 injection hx with _ hx _
 exact absurd hx (by decide)
theorem isBytes.farL {W V:World} {a:Option Addr} {n cap:Nat} {l:List Nat} (h:isBytes W a n cap l) {x:Nat} {L:List Value} {ty:TypeId} (hx:blk W x L ty) (hL:∀ j,Value.int .u8 j ∉ L) (hV:∀ q,q≠x→V.heap[q]?=W.heap[q]?):isBytes V a n cap l:=by
 refine⟨h.len,h.cap,h.small,fun hne=>?_⟩
 obtain⟨g,off,e,hc⟩:=h.cells hne
 refine⟨g,off,e,fun j hj=>?_⟩
 have hcj:=hc j hj
 have hg:g≠x:=by
  rintro rfl
  refine hL (l[j]:Int) ?_
  unfold blk at hx
  unfold World.cell? at hcj
  rw[hx] at hcj
  simp at hcj
  exact List.mem_of_getElem? hcj
 unfold World.cell? at hcj ⊢
 rw[hV g hg]
 exact hcj
theorem rowQ8.vars {B T g n k:Nat} {bs:List R8} {W V:World} (h:rowQ8 B T 67 g n k bs W) {x:Nat} {L:List Value} (hx:blk W x L 41) (hL:∀ j,Value.int .u8 j ∉ L) (hV:∀ q,q≠x→V.heap[q]?=W.heap[q]?) (hz:V.heap.size=W.heap.size):rowQ8 B T 67 g n k bs V:=by
 have hg:=h.neT hx
 obtain⟨rs,ho,hm,hn,hgT,hall⟩:=h
 refine⟨rs,⟨ownsRow_kept ho.own (hV g hg),fun p hp=>?_⟩,hm,hn,hgT,hall⟩
 obtain⟨d1,d2,d3,d4⟩:=ho.dat p hp
 exact⟨d1.farL hx hL hV,d2,d3,by omega⟩
theorem spS.vars {B T0 T1 T2:Nat} {H:Ho} {s:Sl} {W V:World} (h:spS B T0 T1 T2 H s W) {x:Nat} {L:List Value} (hx:blk W x L 41) (hT:T2≤x) (hL:∀ j,Value.int .u8 j ∉ L) (hV:∀ q,q≠x→V.heap[q]?=W.heap[q]?) (hz:V.heap.size=W.heap.size):spS B T0 T1 T2 H s V:=by
 obtain⟨o1,o2,o3,o4⟩:=h.o
 obtain⟨gf,e1,h1a,h1b,h1⟩:=h.f
 obtain⟨gb,hs,e2,h2⟩:=h.x
 obtain⟨gq,e3,h3⟩:=h.r
 obtain⟨g4,e4,h4⟩:=h.q
 refine⟨⟨gf,e1,h1a,h1b,h1.same (hV gf (by omega))⟩,⟨gb,hs,e2,h2.st fun q h1 h2=>hV q (by omega)⟩,⟨gq,e3,h3.keep fun q h1 h2=>hV q (by omega)⟩,⟨g4,e4,?_⟩,⟨o1,o2,o3,by omega⟩⟩
 rw[hz]
 exact h4.vars hx hL hV hz
theorem spS.n2 {B T0 T1 T2:Nat} {H:Ho} {s:Sl} {W:World} (h:spS B T0 T1 T2 H s W):s.n2=H.bx.length:=by
 obtain⟨gb,hs,_,h2⟩:=h.x
 exact h2.len
theorem spS.n4 {B T0 T1 T2:Nat} {H:Ho} {s:Sl} {W:World} (h:spS B T0 T1 T2 H s W):s.n4=H.qu.length:=by
 obtain⟨g4,_,h4⟩:=h.q
 exact h4.is.len
structure bdQ (n:Nat) (H:Ho):Prop where
 q:H.qu.length≤n
 lo:0≤H.lo∧H.lo≤100000
theorem bdQ.post {n:Nat} {H:Ho} (h:bdQ n H) (e:R8):bdQ (n+1) (postHo H e):=by
 refine⟨?_,?_⟩
 ·show (quP H.c3 H.qu e).length≤n+1
  have:=h.q
  unfold quP
  split
  ·rw[List.length_append,List.length_singleton];omega
  ·omega
 ·show 0≤loP H.c3 H.qu H.lo∧loP H.c3 H.qu H.lo≤100000
  have:=h.lo
  unfold loP
  split
  ·exact h.lo
  ·split
   ·omega
   ·exact h.lo
theorem bdQ.up {n:Nat} {H:Ho} (h:bdQ n H) {m:Nat} (hm:n≤m):bdQ m H:=⟨Nat.le_trans h.q hm,h.lo⟩
theorem bdQ.rel {n:Nat} {H:Ho} (h:bdQ n H) (sent:Bool):bdQ (n+1) (relHo H sent):=by
 have hf:∀ k,bdQ n (freeHo H k):=fun k=>⟨h.q,h.lo⟩
 unfold relHo
 split
 ·split
  ·exact (hf _).post _
  ·split
   ·exact (hf _).post _
   ·rw[stHo_yes (by assumption)]
    exact⟨Nat.le_succ_of_le h.q,h.lo⟩
 ·exact h.up (Nat.le_succ _)
theorem okHo.bd {H:Ho} (h:okHo H):bdQ 900 H:=by
 have h1:=of_decide_eq_true h.cf
 have h2:=h.nq
 exact⟨by omega,h.l0,h.l1⟩
theorem l4say_c (W:World) (C:Co) (s:Sl) (B T0 T1 T2:Nat) (x y z:Int) (h:spS B T0 T1 T2 C.ho s W) (hb:bdQ 1000 C.ho) :
  Calls Tryz.prog 77 #[.agg (coL C s).toArray,.int .i64 x,.int .i64 y,.int .i64 z] W fun o w'=>∃ s',o = .returned (.agg (coL { C with ho:=postHo C.ho (ev3 x y z) } s').toArray)∧spS B T0 T1 T2 (postHo C.ho (ev3 x y z)) s' w'∧k41 T2 W w'∧Below B W w':=by
 obtain⟨g4,ha,hQ⟩:=h.q
 have ho:=h.o
 refine (l4say_q W C s T2 W.heap.size g4 x y z ha hQ ho.2.2.2 (Nat.le_refl _) (by rw[h.n4];exact hb.q) hb.lo).mono ?_
 rintro o w' ⟨g',n',k',rfl,q1,q2,q3⟩;have hg:=hQ.glt
 exact⟨qSl s g' n' k',rfl,h.post (q1 w' (fun _ _ _ _=>rfl) (Nat.le_refl _)) (fun q h1 h2=>q2 q (by omega) (by omega)) q3.size,fun q L hq hb=>hb.kept (q2 q (fun e=>hQ.neT hb e.symm) hb.lt),q3.mono (by omega)⟩
theorem l3rel_c (W:World) (H:Ho) (s:Sl) (sent:Bool) (B T0 T1 T2:Nat) (h:spS B T0 T1 T2 H s W) (hb:bdQ 1000 H) (hn2:H.bx.length≤1000) (hsm:∀ j (h:j<H.bx.length),H.bx[j].l.length≤1048576) :
  Calls Tryz.prog 102 #[.agg (hoL H s).toArray,.bool sent] W fun o w'=>∃ s',o = .returned (.agg (hoL (relHo H sent) s').toArray)∧spS B T0 T1 T2 (relHo H sent) s' w'∧k41 T2 W w'∧Below B W w':=by
 obtain⟨g4,ha,hQ⟩:=h.q
 have ho:=h.o
 refine (l3doRelease_fr B T0 T1 T2 W H s sent h (by rw[h.n2];exact hn2) (by rw[h.n4];exact hb.q) hb.lo hsm).mono ?_
 rintro o w' ⟨s',rfl,q1,q2,q3⟩;exact⟨s',rfl,q1,fun q L hq hb=>hb.kept (q3 q (by omega) hb.lt (fun e=>by rw[ha] at e;exact hQ.neT hb (by cases e;rfl))),q2⟩
def tlC (C:Co) (old:Int):Co:=if esZ C.p C.te C.re=old then C else { C with ho:=postHo C.ho (ev3 10 (esZ C.p C.te C.re) 0) }
theorem l4tell_c (W:World) (C:Co) (s:Sl) (B T0 T1 T2:Nat) (old:Int) (h:spS B T0 T1 T2 C.ho s W) (hb:bdQ 1000 C.ho) :
  Calls Tryz.prog 104 #[.agg (coL C s).toArray,.int .i64 old] W fun o w'=>∃ s',o = .returned (.agg (coL (tlC C old) s').toArray)∧spS B T0 T1 T2 (tlC C old).ho s' w'∧k41 T2 W w'∧Below B W w':=by
 have ho:=h.o
 by_cases e:esZ C.p C.te C.re=old
 ·rw[show tlC C old=C from if_pos e]
  refine (l4tell_no W C s old e).mono ?_
  rintro o w' ⟨rfl,q⟩;exact⟨s,rfl,h.below q,k41.below q,q.mono (by omega)⟩
 ·rw[show tlC C old = { C with ho:=postHo C.ho (ev3 10 (esZ C.p C.te C.re) 0) } from if_neg e]
  obtain⟨g4,ha,hQ⟩:=h.q
  refine (l4tell_q W C s T2 W.heap.size g4 old e ha hQ ho.2.2.2 (Nat.le_refl _) (by rw[h.n4];exact hb.q) hb.lo).mono ?_
  rintro o w' ⟨g',n',k',rfl,q1,q2,q3⟩;have hg:=hQ.glt
  exact⟨qSl s g' n' k',rfl,h.post (q1 w' (fun _ _ _ _=>rfl) (Nat.le_refl _)) (fun q h1 h2=>q2 q (by omega) (by omega)) q3.size,fun q L hq hb=>hb.kept (q2 q (fun e=>hQ.neT hb e.symm) hb.lt),q3.mono (by omega)⟩
theorem addS_ho (C:Co) (n:Int):(addS C n).ho=C.ho:=by
 unfold addS
 split
 ·show (addC C C.tx n).ho=_
  unfold addC
  split <;> rfl
 ·unfold addC
  split <;> rfl
structure vS (w:World) (B T0 T1 T2:Nat) (C:Co) (s0:Sl) (H:Ho) (s:Sl) (W:World):Prop where
 p:blk W w.heap.size (coL C s0) 41
 r:blk W (w.heap.size+1) Z21 41
 sp:spS B T0 T1 T2 H s W
 b:Below B w W
 k:k41 T2 w W
 o:T2≤w.heap.size∧B≤w.heap.size
theorem vS.new {w:World} {B T0 T1 T2:Nat} {C:Co} {s:Sl} (h:spS B T0 T1 T2 C.ho s w):vS w B T0 T1 T2 C s C.ho s ((w.alloc (.cells (coL C s).toArray 41)).alloc (.cells Z21.toArray 41)):=by
 have hd:=dcS.new w C s
 have ho:=h.o
 exact⟨hd.p,hd.r,h.below hd.b,hd.b.mono (by omega),k41.below hd.b,by omega,by omega⟩
theorem vS.call {w:World} {B T0 T1 T2:Nat} {C:Co} {s0:Sl} {H:Ho} {s:Sl} {W w':World} (h:vS w B T0 T1 T2 C s0 H s W) {H':Ho} {s':Sl} (hs:spS B T0 T1 T2 H' s' w') (hk:k41 T2 W w') (hb:Below B W w'):vS w B T0 T1 T2 C s0 H' s' w':=
 ⟨hk _ _ h.o.1 h.p,hk _ _ (by have:=h.o;omega) h.r,hs,h.b.trans hb,h.k.trans hk,h.o⟩
theorem vS.below {w:World} {B T0 T1 T2:Nat} {C:Co} {s0:Sl} {H:Ho} {s:Sl} {W w':World} (h:vS w B T0 T1 T2 C s0 H s W) (hb:Below W.heap.size W w'):vS w B T0 T1 T2 C s0 H s w':=
 h.call (h.sp.below hb) (k41.below hb) (hb.mono (by have:=h.b.size;have:=h.o;omega))
theorem vS.other {w:World} {B T0 T1 T2:Nat} {C:Co} {s0:Sl} {H:Ho} {s:Sl} {W V:World} (h:vS w B T0 T1 T2 C s0 H s W) {C':Co} {s1:Sl} (hp:blk V w.heap.size (coL C' s1) 41) (hV:∀ q,q≠w.heap.size→V.heap[q]?=W.heap[q]?) (hz:V.heap.size=W.heap.size) (hb:Below B w V):vS w B T0 T1 T2 C' s1 H s V:=
 ⟨hp,h.r.kept (hV _ (by omega)),h.sp.vars h.p h.o.1 (coL_nb C s0) hV hz,hb,fun q L hq hb=>(h.k q L hq hb).kept (hV q (by have:=hb.lt;omega)),h.o⟩
theorem vS.put {w:World} {B T0 T1 T2:Nat} {C:Co} {s0:Sl} {H:Ho} {s:Sl} {W:World} (h:vS w B T0 T1 T2 C s0 H s W) (C':Co) (s1:Sl):vS w B T0 T1 T2 C' s1 H s (W.setCells w.heap.size 0 (coL C' s1)):=
 h.other (h.p.core rfl C' s1) (fun q hq=>setCells_other _ q hq _ _ _) (setCells_size ..) (setCells_below h.o.2 0 _ h.b)
theorem vS.host {w:World} {B T0 T1 T2:Nat} {C:Co} {s0:Sl} {H:Ho} {s:Sl} {W:World} (h:vS w B T0 T1 T2 C s0 H s W) (H':Ho) (s1:Sl):vS w B T0 T1 T2 { C with ho:=H' } s1 H s (W.setCells w.heap.size 11 (hoL H' s1)):=
 h.other (h.p.host H' s1) (fun q hq=>setCells_other _ q hq _ _ _) (setCells_size ..) (setCells_below h.o.2 11 _ h.b)
theorem vS.set {w:World} {B T0 T1 T2:Nat} {C:Co} {s0:Sl} {H:Ho} {s:Sl} {W:World} (h:vS w B T0 T1 T2 C s0 H s W) (i:Nat) (v:Value) (C':Co) (e:(coL C s0).set i v=coL C' s0):vS w B T0 T1 T2 C' s0 H s (W.setCell ⟨w.heap.size,i,none⟩ v):=
 h.other (by rw[← e];exact h.p.set i v) (fun q hq=>heap_setCell_other W ⟨w.heap.size,i,none⟩ q _ hq) (by simp) (h.b.setCell (by exact h.o.2) _)
theorem vS.ret {w:World} {B T0 T1 T2:Nat} {C:Co} {s0:Sl} {H:Ho} {s:Sl} {W:World} (h:vS w B T0 T1 T2 C s0 H s W) (C':Co) (s1:Sl):blk (W.setCells (w.heap.size+1) 0 (coL C' s1)) (w.heap.size+1) (coL C' s1) 41∧spS B T0 T1 T2 H s (W.setCells (w.heap.size+1) 0 (coL C' s1))∧k41 T2 w (W.setCells (w.heap.size+1) 0 (coL C' s1))∧Below B w (W.setCells (w.heap.size+1) 0 (coL C' s1)):=by
 have ho:=h.o
 have hV:∀ q,q≠w.heap.size+1→(W.setCells (w.heap.size+1) 0 (coL C' s1)).heap[q]?=W.heap[q]?:=fun q hq=>setCells_other _ q hq _ _ _
 exact⟨h.r.core rfl C' s1,h.sp.vars h.r (by omega) Z21_nb hV (setCells_size ..),fun q L hq hb=>(h.k q L hq hb).kept (hV q (by have:=hb.lt;omega)),setCells_below (by omega) 0 _ h.b⟩
theorem hidS {w:World} {B T0 T1 T2:Nat} {C:Co} {s0:Sl} {H:Ho} {s:Sl} {W V:World} (e:W=V) (h:vS w B T0 T1 T2 C s0 H s W):Hid (vS w B T0 T1 T2 C s0 H s V):=by rw[← e];exact h
theorem hidR {w:World} {B T0 T1 T2:Nat} {H:Ho} {s:Sl} {L:List Value} {W V:World} (e:W=V) (h:blk W (w.heap.size+1) L 41∧spS B T0 T1 T2 H s W∧k41 T2 w W∧Below B w W):Hid (blk V (w.heap.size+1) L 41∧spS B T0 T1 T2 H s V∧k41 T2 w V∧Below B w V):=by rw[← e];exact h
def flt4 (X:Co):Co:=if X.p=7 then X else { X with p:=2,ct:=0,lv:=0,ov:=false }
theorem wrP_rel {C:Co} (hok:okCo C) (k b:Int) (h:¬ (C.p=1∧C.tx=true)):relHo (postHo C.ho (ev3 8 k b)) false=postHo C.ho (ev3 8 k b):=relHo_none (fun e=>h (hok.s.2 (fun ha=>ha _ e (wireIx_on e))))
theorem addS_0 (X:Co) (ht:0≤X.te∧X.te<256) (hr:0≤X.re∧X.re≤255):addS X 0=X:=by
 have e:addC X X.tx 0=X:=by
  unfold addC
  split
  ·rw[if_neg (by omega),Int.add_zero]
  ·rw[Int.add_zero,Int.min_eq_left hr.2]
 unfold addS
 rw[e,if_neg (by omega)]
theorem flt_end {C:Co} (hp:C.p≠7) (k:Int):tlC (flt4 (addS (fltM C k) (fwZ C.tx (fltO C k) C.p k))) (stZ C.te C.re)=actC C (fltC C k):=by
 have e1:∀ X:Co,X.p≠7→X.te≠256→∀ b,tlC X b=tellC X b:=fun X h1 h2 b=>by
  unfold tlC tellC esZ stZ
  rw[if_neg h1,if_neg h2]
 have e2:∀ X:Co,X.te=256→∀ b,tlC (offC X) b=tellC (offC X) b:=fun X h2 b=>by
  unfold tlC tellC
  have h3:(offC X).te=256:=h2
  have h4:(offC X).p=7:=rfl
  unfold esZ stZ
  rw[if_pos h3,if_pos h4]
 obtain⟨A,eA⟩ : ∃ A,addC (fltM C k) C.tx (fwZ C.tx (fltO C k) C.p k)=A:=⟨_,rfl⟩
 have ea:addS (fltM C k) (fwZ C.tx (fltO C k) C.p k)=if A.te=256 then offC A else A:=by
  rw[← eA]
  rfl
 have ef:fltC C k = { A with p:=2,ct:=0,lv:=0,ov:=false }:=by rw[← eA];rfl
 have ep:A.p=C.p:=by rw[← eA];unfold addC;split <;> rfl
 rw[ea,ef]
 unfold actC
 by_cases e:A.te=256
 ·rw[if_pos e,if_pos ⟨e,by show (2:Int)≠7;decide⟩]
  show tlC (flt4 (offC A)) _=tellC (offC A) _
  rw[show flt4 (offC A)=offC A from if_pos rfl]
  exact e2 A e _
 ·rw[if_neg e,if_neg (fun x=>e x.1)]
  rw[show flt4 A = { A with p:=2,ct:=0,lv:=0,ov:=false } from if_neg (by rw[ep];exact hp)]
  exact e1 { A with p:=2,ct:=0,lv:=0,ov:=false } (by show (2:Int)≠7;decide) e _
set_option maxHeartbeats 8000000 in
set_option maxRecDepth 20000 in
theorem l4doFault_any (w:World) (C:Co) (s:Sl) (B T0 T1 T2:Nat) (k:Int) (h:spS B T0 T1 T2 C.ho s w) (hok:okCo C) (hp:C.p≠7) (hn:C.ho.le 1048576) :
  Calls Tryz.prog 42 #[.agg (coL C s).toArray,.int .i64 k] w fun o w'=>∃ s',o = .returned (.agg (coL (actC C (fltC C k)) s').toArray)∧spS B T0 T1 T2 (actC C (fltC C k)).ho s' w'∧k41 T2 w w'∧Below B w w':=by
 have H0:Hid (vS w B T0 T1 T2 C s C.ho s ((w.alloc (.cells (coL C s).toArray 41)).alloc (.cells [.int .i64 0,.int .i64 0,.int .i64 0,.bool false,.bool false,.bool false,.bool false,.bool false,.int .i64 0,.int .i64 0,.int .i64 0,.int .i64 0,.int .i64 0,.int .i64 0,.int .i64 0,.slice none 0 0,.slice none 0 0,.slice none 0 0,.slice none 0 0,.int .i64 0,.int .i64 0].toArray 41))):=vS.new h
 obtain⟨es,hes⟩ : ∃ es,stZ C.te C.re=es:=⟨_,rfl⟩
 obtain⟨fv,hfv⟩ : ∃ fv:Int,fv=if C.tx then 1 else 0:=⟨_,rfl⟩
 have hbd:=hok.h.bd
 have hte:0≤C.te∧C.te<256:=⟨hok.m.te.1,by have:=hok.m.te.2;have:C.te≠256:=fun e=>hp (hok.m.of.2 e);omega⟩
 have HES:Hid (∀ W,Calls Tryz.prog 27 #[.agg (coL C s).toArray] W fun o w'=>o = .returned (.int .i64 es)∧Below W.heap.size W w'):=fun W=>by
  have:=specES_any W C s
  rw[show esZ C.p C.te C.re=es by rw[← hes];unfold esZ stZ;rw[if_neg hp,if_neg (show ¬ C.te=256 by omega)]] at this
  exact this
 have HEN:Hid (tlC (flt4 (addS (fltM C k) (fwZ C.tx (fltO C k) C.p k))) es=actC C (fltC C k)):=by rw[← hes];exact flt_end hp k
 obtain⟨H1,eH1⟩ : ∃ H1,postHo C.ho (ev3 8 k fv)=H1:=⟨_,rfl⟩
 have hb1:bdQ 901 H1:=by rw[← eH1];exact hbd.post _
 have HFH:Hid (relHo H1 false=fltH C k):=by show _=_;unfold fltH;rw[← eH1,hfv]
 have HNR:Hid ((C.p == 1 && C.tx)=false→fltH C k=H1):=fun hh=>by rw[← HFH.out,← eH1];exact wrP_rel hok k fv (by simpa using hh)
 have HSY:Hid (∀ W,spS B T0 T1 T2 C.ho s W→Calls Tryz.prog 77 #[.agg (coL C s).toArray,.int .i64 8,.int .i64 k,.int .i64 fv] W fun o w'=>∃ s',o = .returned (.agg (coL { C with ho:=H1 } s').toArray)∧spS B T0 T1 T2 H1 s' w'∧k41 T2 W w'∧Below B W w'):=fun W hW=>by rw[← eH1];exact l4say_c W C s B T0 T1 T2 8 k fv hW (hbd.up (by decide))
 have HRE:Hid (∀ W s',spS B T0 T1 T2 H1 s' W→Calls Tryz.prog 102 #[.agg (hoL H1 s').toArray,.bool false] W fun o w'=>∃ s',o = .returned (.agg (hoL (fltH C k) s').toArray)∧spS B T0 T1 T2 (fltH C k) s' w'∧k41 T2 W w'∧Below B W w'):=fun W s' hW=>by rw[← HFH.out];exact l3rel_c W H1 s' false B T0 T1 T2 hW (hb1.up (by decide)) (by rw[← eH1];show C.ho.bx.length≤1000;have:=hok.h.n2;omega) (by rw[← eH1];exact hn.bd)
 have HBH:Hid (bdQ 902 (fltH C k)):=by rw[← HFH.out];exact hb1.rel false
 have HAD:Hid (∀ W n s',0≤n∧n≤8→Calls Tryz.prog 103 #[.agg (coL (fltM C k) s').toArray,.int .i64 n] W fun o w'=>o = .returned (.agg (coL (addS (fltM C k) n) s').toArray)∧Below W.heap.size W w'):=fun W n s' hn=>l4add_any W (fltM C k) s' n hn hte hok.m.re
 have HTL:Hid (∀ W X s',spS B T0 T1 T2 X.ho s' W→X.ho=fltH C k→Calls Tryz.prog 104 #[.agg (coL X s').toArray,.int .i64 es] W fun o w'=>∃ s'',o = .returned (.agg (coL (tlC X es) s'').toArray)∧spS B T0 T1 T2 (tlC X es).ho s'' w'∧k41 T2 W w'∧Below B W w'):=fun W X s' hW e=>l4tell_c W X s' B T0 T1 T2 es hW (by rw[e];exact HBH.out.up (by decide))
 have HFV:Hid ((C.tx=true→fv=1)∧(C.tx=false→fv=0)):=⟨fun e=>by rw[hfv,e];rfl,fun e=>by rw[hfv,e];rfl⟩
 obtain⟨oq,eoq⟩ : ∃ b,((es == 1) && C.tx && (k == 5))=b:=⟨_,rfl⟩
 have HM:Hid (fltM C k = { { C with ho:=fltH C k } with wk:=es == 1,ow:=oq }):=by show _=_;rw[← eoq];unfold fltM fltO fltW;rw[hes]
 have HOQ:Hid (((es == 1) && C.tx && (k == 5))=oq):=eoq
 have HNZ:Hid (addS (fltM C k) 0=fltM C k):=addS_0 _ hte hok.m.re
 have HFW:Hid (fltO C k=(fltM C k).ow):=rfl
 clear h hok hp hn hes hfv hbd hte eH1 hb1 eoq;go_enter Tryz.func42,Tryz.ntmps42
 go_wp2_with (first | (refine wpList_load_mid (P:=Tryz.prog) rfl 41 (.tmp 2) rfl w.heap.size 0 rfl (coL C s) _ H0.out.p.load Tryz.underlying41 rfl (szC41L _ _) ?_))
 refine (HES.out _).mono ?_
 rintro o w1 ⟨rfl,hb1⟩;have HV1:Hid (vS w B T0 T1 T2 C s C.ho s w1):=H0.out.below hb1
 obtain⟨tx,etx⟩ : ∃ tx,C.tx=tx:=⟨_,rfl⟩
 have y6:=HV1.out.p.cell 6 (.bool C.tx) rfl
 rw[etx] at y6
 have HTX:Hid (C.tx=tx):=etx
 rw[etx] at HFV
 clear H0 hb1 HES etx;go_upto_if 10 with fail
 go_cut [6] (fun s6 wx=>s6 = .int .i64 fv∧wx=w1)
 case first=>
  cases tx
  ·go_wp2_with fail;go_meet
   case rel=>exact⟨by rw[HFV.out.2 trivial],rfl⟩
  ·go_wp2_with fail;go_meet
   case rel=>exact⟨by rw[HFV.out.1 trivial],rfl⟩
 case rest=>
 obtain⟨rfl,hw⟩:=hcut
 subst hw;go_wp2_with (first | (refine wpList_load_mid (P:=Tryz.prog) rfl 41 (.tmp 2) rfl w.heap.size 0 rfl (coL C s) _ HV1.out.p.load Tryz.underlying41 rfl (szC41L _ _) ?_))
 refine (HSY.out _ HV1.out.sp).mono ?_
 rintro o w2 ⟨s2,rfl,q1,q2,q3⟩;have HV2:Hid (vS w B T0 T1 T2 C s H1 s2 w2):=HV1.out.call q1 q2 q3
 clear q1 q2 q3 y6 HV1 HSY HFV;go_upto_region 6 with (first | (refine wpList_store_mid (P:=Tryz.prog) rfl 41 (.tmp 2) (.tmp 14) rfl w.heap.size 0 (coL { C with ho:=H1 } s2).toArray rfl rfl (HV2.out.p.there 0 _ (by rw[List.size_toArray,coL_len,coL_len];decide)) (szC41A _ _) (coL_one _ _) ?_;generalize hW3:World.setCells _ w.heap.size 0 _=w3;have HV3:=hidS hW3 (HV2.out.put { C with ho:=H1 } s2);clear hW3))
 have y0:=HV3.out.p.cell 0 (.int .i64 C.p) rfl
 have y6:=HV3.out.p.cell 6 (.bool C.tx) rfl
 rw[HTX.out] at y6
 obtain⟨b1,eb1⟩ : ∃ b,(C.p == 1)=b:=⟨_,rfl⟩
 simp only[Act.put]
 go_cut [21] (fun s21 wx=>s21 = .bool (b1 && tx)∧wx=w3)
 case first=>
  cases b1 <;> cases tx <;> (
   go_wp2_with fail;go_meet
   case rel=>exact⟨rfl,rfl⟩)
 case rest=>
 obtain⟨rfl,hw⟩:=hcut
 subst hw;rw[eb1,HTX.out] at HNR
 clear eb1 y0 y6 HV2;obtain⟨b2,eb2⟩ : ∃ b,(b1 && tx)=b:=⟨_,rfl⟩
 rw[eb2]
 rw[eb2] at HNR
 clear eb2;go_upto_if 21 with fail
 go_cut [] (fun wx=>∃ s3,Hid (vS w B T0 T1 T2 { C with ho:=fltH C k } s3 (fltH C k) s3 wx))
 case first=>
  cases b2
  ·go_wp2_with fail;go_meet
   case rel=>exact⟨s2,by rw[HNR.out trivial];exact HV3.out⟩
  ·go_wp2_with (first | (refine wpList_load_mid (P:=Tryz.prog) rfl 39 (.tmp 22) rfl w.heap.size 11 rfl (hoL H1 s2) _ HV3.out.p.hostAt Tryz.underlying39 rfl (sz39h _ _) ?_))
   refine (HRE.out _ s2 HV3.out.sp).mono ?_
   rintro o w4 ⟨s4,rfl,q1,q2,q3⟩;have HV4:Hid (vS w B T0 T1 T2 { C with ho:=H1 } s2 (fltH C k) s4 w4):=HV3.out.call q1 q2 q3
   clear q1 q2 q3;go_wp2_with (first | (refine wpList_store_mid (P:=Tryz.prog) rfl 39 (.tmp 25) (.tmp 24) rfl w.heap.size 11 (hoL (fltH C k) s4).toArray rfl rfl (HV4.out.p.there 11 _ (by rw[List.size_toArray,hoL_len,coL_len];decide)) (sz39A _ _) (hoL_one _ _) ?_;generalize hW5:World.setCells _ w.heap.size 11 _=w5;have HV5:=hidS hW5 (HV4.out.host (fltH C k) s4);clear hW5))
   go_meet
   case rel=>exact⟨s4,HV5.out⟩
 case rest=>
 obtain⟨s3,HV5⟩:=hcut
 clear HV3 HRE HNR HFH;have f3:=HV5.out.p.free 3
 obtain⟨wk,ewk⟩ : ∃ b,(es == 1)=b:=⟨_,rfl⟩
 have y3:=HV5.out.p.cell 3 (.bool C.wk) rfl
 go_upto_region 9 with fail
 have HV6:Hid (vS w B T0 T1 T2 { C with wk:=wk,ho:=fltH C k } s3 (fltH C k) s3 (World.setCell wc ⟨w.heap.size,3,none⟩ (.bool wk))):=HV5.out.set 3 (.bool wk) _ rfl
 generalize World.setCell wc ⟨w.heap.size,3,none⟩ (.bool wk)=w6 at *;clear f3 y3 HV5;have y3:=HV6.out.p.cell 3 (.bool wk) rfl
 have y6:=HV6.out.p.cell 6 (.bool C.tx) rfl
 have f5:=HV6.out.p.free 5
 obtain⟨k5,ek5⟩ : ∃ b,(k == 5)=b:=⟨_,rfl⟩
 rw[HTX.out] at y6
 rw[HTX.out,ek5,ewk] at HOQ
 rw[ewk] at HM
 have y5:=HV6.out.p.cell 5 (.bool C.ow) rfl
 go_cut [] (fun wx=>Hid (vS w B T0 T1 T2 (fltM C k) s3 (fltH C k) s3 wx))
 case first=>
  cases wk <;> cases tx <;> cases k5 <;> (
   go_wp2_with fail;go_meet
   case rel=>rw[HM.out];exact HV6.out.set 5 _ _ (by first | (rw[← HOQ.out];rfl) | (rw[HOQ.out];rfl)))
 case rest=>
 have HV7:=hcut
 clear hcut HV6 y3 y5 y6 f5 HM ek5 ewk HOQ;have y0:=HV7.out.p.cell 0 (.int .i64 C.p) rfl
 have y5:=HV7.out.p.cell 5 (.bool (fltO C k)) rfl
 have y6:=HV7.out.p.cell 6 (.bool C.tx) rfl
 obtain⟨ow,eow⟩ : ∃ b,fltO C k=b:=⟨_,rfl⟩
 rw[eow] at y5 HEN
 rw[HTX.out] at y6 HEN
 clear eow;go_upto_if 41 with fail
 go_cut [] (fun wx=>Hid (vS w B T0 T1 T2 (addS (fltM C k) (fwZ tx ow C.p k)) s3 (fltH C k) s3 wx))
 case first=>
  cases tx
  ·obtain⟨p2,ep2⟩ : ∃ b,(C.p == 2)=b:=⟨_,rfl⟩
   cases p2
   ·have HFZ:Hid (fwZ false ow C.p k=1):=by show _=_;unfold fwZ;rw[ep2];rfl
    go_wp2_with (first | (refine wpList_load_mid (P:=Tryz.prog) rfl 41 (.tmp 2) rfl w.heap.size 0 rfl (coL (fltM C k) s3) _ HV7.out.p.load Tryz.underlying41 rfl (szC41L _ _) ?_))
    refine (HAD.out _ 1 s3 (by decide)).mono ?_
    rintro o w8 ⟨rfl,hb8⟩;have HV8:Hid (vS w B T0 T1 T2 (fltM C k) s3 (fltH C k) s3 w8):=HV7.out.below hb8
    clear hb8;go_wp2_with (first | (refine wpList_store_mid (P:=Tryz.prog) rfl 41 (.tmp 2) (.tmp 57) rfl w.heap.size 0 (coL (addS (fltM C k) 1) s3).toArray rfl rfl (HV8.out.p.there 0 _ (by rw[List.size_toArray,coL_len,coL_len];decide)) (szC41A _ _) (coL_one _ _) ?_;generalize hW9:World.setCells _ w.heap.size 0 _=w9;have HV9:=hidS hW9 (HV8.out.put (addS (fltM C k) 1) s3);clear hW9))
    go_meet
    case rel=>rw[HFZ.out];exact HV9.out
   ·have HFZ:Hid (fwZ false ow C.p k=8):=by show _=_;unfold fwZ;rw[ep2];rfl
    go_wp2_with (first | (refine wpList_load_mid (P:=Tryz.prog) rfl 41 (.tmp 2) rfl w.heap.size 0 rfl (coL (fltM C k) s3) _ HV7.out.p.load Tryz.underlying41 rfl (szC41L _ _) ?_))
    refine (HAD.out _ 8 s3 (by decide)).mono ?_
    rintro o w8 ⟨rfl,hb8⟩;have HV8:Hid (vS w B T0 T1 T2 (fltM C k) s3 (fltH C k) s3 w8):=HV7.out.below hb8
    clear hb8;go_wp2_with (first | (refine wpList_store_mid (P:=Tryz.prog) rfl 41 (.tmp 2) (.tmp 55) rfl w.heap.size 0 (coL (addS (fltM C k) 8) s3).toArray rfl rfl (HV8.out.p.there 0 _ (by rw[List.size_toArray,coL_len,coL_len];decide)) (szC41A _ _) (coL_one _ _) ?_;generalize hW9:World.setCells _ w.heap.size 0 _=w9;have HV9:=hidS hW9 (HV8.out.put (addS (fltM C k) 8) s3);clear hW9))
    go_meet
    case rel=>rw[HFZ.out];exact HV9.out
  ·obtain⟨k6,ek6⟩ : ∃ b,(k == 6)=b:=⟨_,rfl⟩
   have en6:(k != 6) = !k6:=by rw[← ek6];rfl
   cases k6
   ·cases ow
    ·have HFZ:Hid (fwZ true false C.p k=8):=by show _=_;unfold fwZ;rw[ek6];rfl
     go_wp2_with (first | (refine wpList_load_mid (P:=Tryz.prog) rfl 41 (.tmp 2) rfl w.heap.size 0 rfl (coL (fltM C k) s3) _ HV7.out.p.load Tryz.underlying41 rfl (szC41L _ _) ?_))
     refine (HAD.out _ 8 s3 (by decide)).mono ?_
     rintro o w8 ⟨rfl,hb8⟩;have HV8:Hid (vS w B T0 T1 T2 (fltM C k) s3 (fltH C k) s3 w8):=HV7.out.below hb8
     clear hb8;go_wp2_with (first | (refine wpList_store_mid (P:=Tryz.prog) rfl 41 (.tmp 2) (.tmp 50) rfl w.heap.size 0 (coL (addS (fltM C k) 8) s3).toArray rfl rfl (HV8.out.p.there 0 _ (by rw[List.size_toArray,coL_len,coL_len];decide)) (szC41A _ _) (coL_one _ _) ?_;generalize hW9:World.setCells _ w.heap.size 0 _=w9;have HV9:=hidS hW9 (HV8.out.put (addS (fltM C k) 8) s3);clear hW9))
     go_meet
     case rel=>rw[HFZ.out];exact HV9.out
    ·have HFZ:Hid (fwZ true true C.p k=0):=rfl
     go_wp2_with fail;go_meet
     case rel=>rw[HFZ.out,HNZ.out];exact HV7.out
   ·have HFZ:Hid (fwZ true ow C.p k=0):=by show _=_;unfold fwZ;rw[ek6];cases ow <;> rfl
    go_wp2_with fail;go_meet
    case rel=>rw[HFZ.out,HNZ.out];exact HV7.out
 case rest=>
 obtain⟨X3,eX3⟩ : ∃ X,addS (fltM C k) (fwZ tx ow C.p k)=X:=⟨_,rfl⟩
 have HX3:Hid (X3.ho=fltH C k):=by show _=_;rw[← eX3];exact addS_ho _ _
 rw[eX3] at hcut HEN
 have HV9:=hcut
 clear hcut eX3 HAD HNZ HFW HV7 y0 y5 y6;have y0:=HV9.out.p.cell 0 (.int .i64 X3.p) rfl
 have y1:=HV9.out.p.cell 1 (.int .i64 X3.ct) rfl
 have y2:=HV9.out.p.cell 2 (.int .i64 X3.lv) rfl
 have y4:=HV9.out.p.cell 4 (.bool X3.ov) rfl
 have f0:=HV9.out.p.free 0
 have f1:=HV9.out.p.free 1
 have f2:=HV9.out.p.free 2
 have f4:=HV9.out.p.free 4
 obtain⟨p7,ep7⟩ : ∃ b,(X3.p == 7)=b:=⟨_,rfl⟩
 have en7:(X3.p != 7) = !p7:=by rw[← ep7];rfl
 go_upto_if 60 with fail
 go_cut [] (fun wx=>Hid (vS w B T0 T1 T2 (flt4 X3) s3 (fltH C k) s3 wx))
 case first=>
  cases p7
  ·have HFL:Hid (flt4 X3 = { X3 with p:=2,ct:=0,lv:=0,ov:=false }):=if_neg (by simpa using ep7)
   go_wp2_with fail;go_meet
   case rel=>rw[HFL.out];exact (((HV9.out.set 0 (.int .i64 2) { X3 with p:=2 } rfl).set 1 (.int .i64 0) { X3 with p:=2,ct:=0 } rfl).set 2 (.int .i64 0) { X3 with p:=2,ct:=0,lv:=0 } rfl).set 4 (.bool false) _ rfl
  ·have HFL:Hid (flt4 X3=X3):=if_pos (by simpa using ep7)
   go_wp2_with fail;go_meet
   case rel=>rw[HFL.out];exact HV9.out
 case rest=>
 obtain⟨X4,eX4⟩ : ∃ X,flt4 X3=X:=⟨_,rfl⟩
 have HX4:Hid (X4.ho=fltH C k):=by show _=_;rw[← eX4,← HX3.out];unfold flt4;split <;> rfl
 rw[eX4] at hcut HEN
 have HVA:=hcut
 clear hcut eX4 HV9 y0 y1 y2 y4 f0 f1 f2 f4 ep7 en7;go_wp2_with (first | (refine wpList_load_mid (P:=Tryz.prog) rfl 41 (.tmp 2) rfl w.heap.size 0 rfl (coL X4 s3) _ HVA.out.p.load Tryz.underlying41 rfl (szC41L _ _) ?_))
 refine (HTL.out _ X4 s3 (by rw[HX4.out];exact HVA.out.sp) HX4.out).mono ?_
 rintro o w10 ⟨s10,rfl,q1,q2,q3⟩;have HVB:Hid (vS w B T0 T1 T2 X4 s3 (tlC X4 es).ho s10 w10):=HVA.out.call q1 q2 q3
 clear q1 q2 q3 HTL HVA;go_wp2_with (first | (refine wpList_store_mid (P:=Tryz.prog) rfl 41 (.tmp 4) (.tmp 67) rfl (w.heap.size+1) 0 (coL (tlC X4 es) s10).toArray rfl rfl (HVB.out.r.there 0 _ (by rw[List.size_toArray,coL_len];decide)) (szC41A _ _) (coL_one _ _) ?_;generalize hW11:World.setCells _ (w.heap.size+1) 0 _=w11;have R11:=hidR hW11 (HVB.out.ret (tlC X4 es) s10);clear hW11))
 have hL:=run_loadVar_mid (P:=Tryz.prog) w11 (w.heap.size+1) 0 41 _ _ R11.out.1.load Tryz.underlying41 rfl (szC41L _ _)
 refine bodyPost_ret (v:=.agg (coL (tlC X4 es) s10).toArray) (results_cell Tryz.results42 _ w11 (w.heap.size+1) _ rfl hL) rfl ?_
 rw[← HEN.out]
 exact⟨s10,rfl,R11.out.2⟩
theorem okCo.lo {C:Co} (h:okCo C):0≤C.ho.lo∧C.ho.lo≤100000:=⟨h.h.l0,h.h.l1⟩
def okRelP (P:Prop) (R T:Co):Prop:=(P∧T=R)∨(¬ P∧T=zCo)
theorem okRelP_ex (P:Prop) (R:Co):∃ T,okRelP P R T:=by
 rcases Classical.em P with h|h
 ·exact⟨_,Or.inl ⟨h,rfl⟩⟩
 ·exact⟨_,Or.inr ⟨h,rfl⟩⟩
theorem okRelP.yes {P:Prop} {R T:Co} (h:okRelP P R T) (hok:P):T=R:=by
 rcases h with⟨_,e⟩|⟨h,_⟩
 ·exact e
 ·exact absurd hok h
theorem okRelP.no {P:Prop} {R T:Co} (h:okRelP P R T) (hok:¬ P):T=zCo:=by
 rcases h with⟨h,_⟩|⟨_,e⟩
 ·exact absurd h hok
 ·exact e
theorem l4okB (w:World) (C:Co) (s:Sl) (h:isHo w C.ho s) (hn:C.ho.le 1048576):∃ b:Bool,Hid (b=true↔okCo C)∧Hid (∀ W,Below w.heap.size w W→Calls Tryz.prog 33 #[.agg (coL C s).toArray] W fun o w'=>o = .returned (.bool b)∧Below W.heap.size W w'):=by
 by_cases hok:okCo C
 ·exact⟨true,⟨fun _=>hok,fun _=>rfl⟩,fun W hW=>okLC W C s (h.below hW) hn hok⟩
 ·exact⟨false,⟨fun x=>(by cases x),fun x=>absurd x hok⟩,fun W hW=>badLC W C s (h.below hW) hn hok⟩
theorem eqB (x y:Int):∃ b:Bool,(x == y)=b∧(x != y) = !b∧Hid (b=true↔x=y):=⟨_,rfl,rfl,by show _↔_;simp⟩
theorem ltB (x y:Int):∃ b:Bool,decide (x<y)=b∧Hid (b=true↔x<y):=⟨_,rfl,by show _↔_;simp⟩
set_option maxHeartbeats 8000000 in
set_option maxRecDepth 20000 in
theorem specFault_any (w:World) (C:Co) (s:Sl) (k:Int) (T:Co) (hR:okRelP (okFa C k) (actC C (fltC C k)) T) (h:isHo w C.ho s) (hn:C.ho.le 1048576) :
  Calls Tryz.prog 15 #[.agg (coL C s).toArray,.int .i64 k] w fun o w'=>∃ s',o = .returned (.agg (coL T s').toArray)∧isHo w' T.ho s'∧Below w.heap.size w w':=by
 have H0:Hid (dcS w C s ((w.alloc (.cells (coL C s).toArray 41)).alloc (.cells [.int .i64 0,.int .i64 0,.int .i64 0,.bool false,.bool false,.bool false,.bool false,.bool false,.int .i64 0,.int .i64 0,.int .i64 0,.int .i64 0,.int .i64 0,.int .i64 0,.int .i64 0,.slice none 0 0,.slice none 0 0,.slice none 0 0,.slice none 0 0,.int .i64 0,.int .i64 0].toArray 41))):=dcS.new w C s
 have HR:Hid (okRelP (okFa C k) (actC C (fltC C k)) T):=hR
 obtain⟨bo,fo,HV⟩:=l4okB w C s h hn
 have HC:Hid (∀ W,Below w.heap.size w W→Calls Tryz.prog 35 #[.agg (coL C s).toArray] W fun o w'=>∃ s' T0 T1 T2,o = .returned (.agg (coL C s').toArray)∧spS (W.heap.size+2) T0 T1 T2 C.ho s' w'∧s'.n2=C.ho.bx.length∧s'.n4=C.ho.qu.length∧Below W.heap.size W w'):=fun W hW=>l4copy_any W C s (h.below hW) hn
 have HN:Hid (C.ho.le 1048576):=hn
 obtain⟨b1,e1,f1⟩:=ltB k 1
 obtain⟨b6,e6,f6⟩:=ltB 6 k
 obtain⟨p1,_,d1,g1⟩:=eqB C.p 1
 obtain⟨p2,_,d2,g2⟩:=eqB C.p 2
 obtain⟨p4,_,d4,g4⟩:=eqB C.p 4
 clear hR h hn;go_enter Tryz.func15,Tryz.ntmps15
 go_upto_region 1 with fail
 go_cut [15] (fun s15 wx=>s15 = .bool (!bo || b1 || b6)∧Hid (dcS w C s wx))
 case first=>
  cases bo <;> cases b1 <;> cases b6 <;> (
   go_wp2_with (first | (refine wpList_load_mid (P:=Tryz.prog) rfl 41 (.tmp 2) rfl w.heap.size 0 rfl (coL C s) _ H0.out.p.load Tryz.underlying41 rfl (szC41L _ _) ?_))
   refine (HV.out _ H0.out.b).mono ?_
   rintro o w1 ⟨rfl,hb1⟩;have H1:Hid (dcS w C s w1):=H0.out.below hb1
   clear hb1;go_wp2_with fail;go_meet
   case rel=>exact⟨rfl,H1.out⟩)
 case rest=>
 obtain⟨rfl,H1⟩:=hcut
 obtain⟨b15,e15⟩ : ∃ b,(!bo || b1 || b6)=b:=⟨_,rfl⟩
 rw[e15]
 have H15:Hid ((!bo || b1 || b6)=b15):=e15
 clear e15 e1 e6 H0 HV;cases b15
 case true=>
  have HNO:Hid (¬ okFa C k):=fun x=>by
   have h1:=H15.out
   have h2:=fo.out.2 x.1
   have h3:¬ b1=true:=fun y=>by have:=f1.out.1 y;have:=x.2.2;omega
   have h4:¬ b6=true:=fun y=>by have:=f6.out.1 y;have:=x.2.2;omega
   simp[h2,h3,h4] at h1
  go_wp2_with (first | (refine wpList_store_mid (P:=Tryz.prog) rfl 41 (.tmp 4) (.tmp 16) rfl (w.heap.size+1) 0 [.int .i64 0,.int .i64 0,.int .i64 0,.bool false,.bool false,.bool false,.bool false,.bool false,.int .i64 0,.int .i64 0,.int .i64 0,.int .i64 0,.int .i64 0,.int .i64 0,.int .i64 0,.slice none 0 0,.slice none 0 0,.slice none 0 0,.slice none 0 0,.int .i64 0,.int .i64 0].toArray rfl rfl (H1.out.r.there 0 21 (by simp[Z21])) szC41 (all_oneCell_toArray (by simp[Value.oneCell'])) ?_;generalize hW8:World.setCells _ (w.heap.size+1) 0 _=w8;have HW8:Hid (_=w8):=hW8;clear hW8))
  have e8:=HW8.out
  have hF:blk w8 (w.heap.size+1) (coL zCo zSl) 41:=by
   rw[← e8]
   exact H1.out.r.core rfl zCo zSl
  have hL:=run_loadVar_mid (P:=Tryz.prog) w8 (w.heap.size+1) 0 41 _ _ hF.load Tryz.underlying41 rfl (szC41L zCo zSl)
  refine bodyPost_ret (v:=.agg (coL zCo zSl).toArray) (results_cell Tryz.results15 _ w8 (w.heap.size+1) _ rfl hL) rfl ?_
  have hR:=HR.out.no HNO.out
  subst hR;refine⟨zSl,rfl,zHo_is _,?_⟩
  rw[← e8]
  exact setCells_below (by omega) 0 _ H1.out.b
 case false=>
 go_upto_region 3 with fail
 have y0:=H1.out.p.cell 0 (.int .i64 C.p) rfl
 go_cut [29] (fun s29 wx=>s29 = .bool (!p1 && !p2 && !p4)∧Hid (dcS w C s wx))
 case first=>
  cases p1 <;> cases p2 <;> cases p4 <;> (
   go_wp2_with fail;go_meet
   case rel=>exact⟨rfl,H1.out⟩)
 case rest=>
 obtain⟨rfl,H2⟩:=hcut
 obtain⟨b29,e29⟩ : ∃ b,(!p1 && !p2 && !p4)=b:=⟨_,rfl⟩
 rw[e29]
 have H29:Hid ((!p1 && !p2 && !p4)=b29):=e29
 clear e29 d1 d2 d4 y0 H1;cases b29
 case true=>
  have HNO:Hid (¬ okFa C k):=fun x=>by
   have h1:=H29.out
   have h2:p1=true∨p2=true∨p4=true:=by rw[g1.out,g2.out,g4.out];exact x.2.1
   rcases h2 with rfl | rfl | rfl <;> simp at h1
  go_wp2_with (first | (refine wpList_store_mid (P:=Tryz.prog) rfl 41 (.tmp 4) (.tmp 30) rfl (w.heap.size+1) 0 [.int .i64 0,.int .i64 0,.int .i64 0,.bool false,.bool false,.bool false,.bool false,.bool false,.int .i64 0,.int .i64 0,.int .i64 0,.int .i64 0,.int .i64 0,.int .i64 0,.int .i64 0,.slice none 0 0,.slice none 0 0,.slice none 0 0,.slice none 0 0,.int .i64 0,.int .i64 0].toArray rfl rfl (H2.out.r.there 0 21 (by simp[Z21])) szC41 (all_oneCell_toArray (by simp[Value.oneCell'])) ?_;generalize hW8:World.setCells _ (w.heap.size+1) 0 _=w8;have HW8:Hid (_=w8):=hW8;clear hW8))
  have e8:=HW8.out
  have hF:blk w8 (w.heap.size+1) (coL zCo zSl) 41:=by
   rw[← e8]
   exact H2.out.r.core rfl zCo zSl
  have hL:=run_loadVar_mid (P:=Tryz.prog) w8 (w.heap.size+1) 0 41 _ _ hF.load Tryz.underlying41 rfl (szC41L zCo zSl)
  refine bodyPost_ret (v:=.agg (coL zCo zSl).toArray) (results_cell Tryz.results15 _ w8 (w.heap.size+1) _ rfl hL) rfl ?_
  have hR:=HR.out.no HNO.out
  subst hR;refine⟨zSl,rfl,zHo_is _,?_⟩
  rw[← e8]
  exact setCells_below (by omega) 0 _ H2.out.b
 case false=>
 have HOK:Hid (okFa C k):=by
  have h1:=H15.out
  have h2:=H29.out
  have h3:bo=true∧b1=false∧b6=false:=by simpa[and_assoc] using h1
  have i1:¬ k<1:=fun y=>by have:=f1.out.2 y;rw[h3.2.1] at this;cases this
  have i6:¬ 6<k:=fun y=>by have:=f6.out.2 y;rw[h3.2.2] at this;cases this
  have h4:p1=true∨p2=true∨p4=true:=by
   cases p1 <;> cases p2 <;> cases p4 <;> simp_all
  rw[g1.out,g2.out,g4.out] at h4
  exact⟨fo.out.1 h3.1,h4,by omega,by omega⟩
 clear H15 H29 f1 f6 g1 g2 g4 fo;go_wp2_with (first | (refine wpList_load_mid (P:=Tryz.prog) rfl 41 (.tmp 2) rfl w.heap.size 0 rfl (coL C s) _ H2.out.p.load Tryz.underlying41 rfl (szC41L _ _) ?_))
 refine (HC.out _ H2.out.b).mono ?_
 rintro o w2 ⟨s2,T0,T1,T2,rfl,e4,_,_,hb2⟩;have HD:Hid (Calls Tryz.prog 42 #[.agg (coL C s2).toArray,.int .i64 k] w2 fun o w'=>∃ s',o = .returned (.agg (coL (actC C (fltC C k)) s').toArray)∧spS (wc.heap.size+2) T0 T1 T2 (actC C (fltC C k)).ho s' w'∧k41 T2 w2 w'∧Below (wc.heap.size+2) w2 w'):=l4doFault_any w2 C s2 (wc.heap.size+2) T0 T1 T2 k e4 HOK.out.1 (by rcases HOK.out.2.1 with e | e | e <;> rw[e] <;> decide) HN.out
 have H3:Hid (dcS w C s w2):=H2.out.below hb2
 have HZ2:Hid (w.heap.size+1<wc.heap.size):=H2.out.r.lt
 clear e4 hb2 H2 HC;go_wp2_with fail;refine HD.out.mono ?_
 rintro o w3 ⟨s3,rfl,q1,_,q2⟩;have H4:Hid (blk w3 (w.heap.size+1) Z21 41):=H3.out.r.kept (q2.block _ (by have:=HZ2.out;omega))
 have HB3:Hid (Below w.heap.size w w3):=H3.out.b.trans (q2.mono (by have:=HZ2.out;omega))
 have HST:Hid (spS (wc.heap.size+2) T0 T1 T2 (actC C (fltC C k)).ho s3 w3):=q1
 clear q1 q2 H3 HD;go_wp2_with (first
  | (refine wpList_store_mid (P:=Tryz.prog) rfl 41 (.tmp 4) (.tmp 34) rfl (w.heap.size+1) 0 (coL (actC C (fltC C k)) s3).toArray rfl rfl (H4.out.there 0 _ (by rw[List.size_toArray,coL_len];decide)) (szC41A _ s3) (coL_one _ s3) ?_;generalize hW8:World.setCells _ (w.heap.size+1) 0 _=w8;have HW8:Hid (_=w8):=hW8;clear hW8))
 have e8:=HW8.out
 have hF:blk w8 (w.heap.size+1) (coL (actC C (fltC C k)) s3) 41:=by
  rw[← e8]
  exact H4.out.core rfl _ _
 have hL:=run_loadVar_mid (P:=Tryz.prog) w8 (w.heap.size+1) 0 41 _ _ hF.load Tryz.underlying41 rfl (szC41L _ s3)
 refine bodyPost_ret (v:=.agg (coL (actC C (fltC C k)) s3).toArray) (results_cell Tryz.results15 _ w8 (w.heap.size+1) _ rfl hL) rfl ?_
 have hR:=HR.out.yes HOK.out
 subst hR;refine⟨s3,rfl,(HST.out.st (fun x h1 h2=>?_) ?_).is,?_⟩
 ·rw[← e8]
  exact setCells_other _ x (by have:=HZ2.out;omega) _ _ _
 ·rw[← e8,setCells_size]
  exact Nat.le_refl _
 ·rw[← e8]
  exact setCells_below (by omega) 0 _ HB3.out
end Go.Proofs.YtkfcfigbgmbaiaaGreat
