import Derived.Test.YtaamahohdnbpiaaGreatProg
import Derived.WalkKit
import Derived.WalkSpells
import Derived.WalkLawsBesides
import Derived.Deep.QuietTactic
import Derived.BigQuiet
import Derived.Below
import Derived.Laws.BitsAllLaws
import Derived.Laws.IdiomStrings
import Derived.Deep.RegionWith
import Derived.Deep.MidRow
import Derived.Maps.AppendAt
namespace Go.Proofs.YtaamahohdnbpiaaGreat
open Go.RowKit
theorem ret_int {k:IntKind} {a b:Int} (h:a=b):Ending.returned (.int k a) = .returned (.int k b):=by rw[h]
theorem ret_bool {a b:Bool} (h:a=b):Ending.returned (.bool a) = .returned (.bool b):=by rw[h]
theorem Tryz.info5:(Tryz.prog.info? 5).map (fun i=>(i.zero,i.size,i.bytes))=some (some (.int .u8 0),1,1):=by kernel_rfl
def bv (l:List Nat):List Value:=l.map (fun x:Nat=>Value.int .u8 (x:Int))
theorem bv_at (l:List Nat) (j:Nat) (h:j<l.length):(bv l)[j]?=some (Value.int .u8 (l[j]:Int)):=by simp[bv,h]
def ownsB (w:World) (B:Nat) (v:Value) (l:List Nat):Prop:=w.ownsRow B 5 1 v l.length (bv l)
theorem app_byte {ops:Array Oper} {rest:List Oper} {o:Oper} {a:Act} {Q:Exit→Act→World→Prop} (w0 wr:World) (hgd:o.guard=none) (s x:Operand)
  (ho:o.op = .call { callee:=.builtin .append,args:=#[s,x],argTypes:=#[22,22] })
  (B:Nat) (v:Value) (l:List Nat) (c:Nat) (ci:Int) (hci:ci=(c:Int)) (hs:a.eval s=v) (hown:ownsB wr B v l)
  (hx:a.eval x = .slice (some ⟨wr.heap.size,0,none⟩) 1 1) (hlen:l.length≤100000000) (hB:B≤wr.heap.size) (hbel:Below B w0 wr)
  (h:∀ v' w',ownsB w' B v' (l++[c])→Below B w0 w'→B≤w'.heap.size→wpList Tryz.prog ops Q rest (a.put o.dst v') w') :
  wpList Tryz.prog ops Q (o :: rest) a (wr.alloc (.cells #[.int .u8 ci] 5)):=by
 subst hci;obtain⟨i0,hi,hz0,hz1,hz2⟩:=info_parts Tryz.info5
 refine wpList_append_own _ hgd s x 22 ho B 5 i0 (.int .u8 0) 1 1 Tryz.underlying22 hi hz0 hz1 hz2 rfl (by decide) v l.length (bv l) hs (World.ownsRow.alloc hown _) ⟨wr.heap.size,0,none⟩ 1 1 [.int .u8 (c:Int)] hx rfl ?_ ?_ ?_ ?_ ?_ ?_
 ·intro j u hj;match j,hj with
  | 0,hj=>simp at hj;subst hj;simp[Addr.add]
 ·intro u hu;simp at hu;subst hu;rfl
 ·unfold maxLen;omega
 ·omega
 ·simp;omega
 ·intro v' w' ho' hg _;have hr:∀ k,v.ownBlock=some k→B≤k:=fun k hk=>(World.ownsRow.lt hown k hk).1
  refine h v' w' ?_ ((hbel.alloc hB _).grown hg (by simp;omega) hr) (Nat.le_trans (by simp;omega) hg.size)
  have e1:bv (l++[c])=bv l++[.int .u8 (c:Int)]:=by simp[bv]
  unfold ownsB
  rw[e1,List.length_append]
  exact ho'
theorem own_nil (w:World) (B:Nat) (hB:B≤w.heap.size):ownsB (w.alloc (.cells #[] 5)) B (.slice (some ⟨w.heap.size,0,none⟩) 0 0) []:=
 World.ownsRow_made w #[] 0 hB (by decide) rfl
structure rowB (w:World) (g n:Nat) (f:Nat→Nat):Prop where
 cell:∀ t,t<n→w.cell? ⟨g,t,none⟩=some (.int .u8 (f t:Int))
 free:∀ t,t<n→w.frozen? ⟨g,t,none⟩=false
theorem rowB.of {w:World} {g n:Nat} {f f':Nat→Nat} (h:rowB w g n f) (he:∀ t,t<n→f t=f' t):rowB w g n f':=
 ⟨fun t ht=>by rw[← he t ht];exact h.cell t ht,h.free⟩
theorem rowB.set {w:World} {g n:Nat} {f f':Nat→Nat} (h:rowB w g n f) (t0:Nat) (ht0:t0<n) (x:Int) (hx:x=(f' t0:Int)) (he:∀ t,t<n→t≠t0→f t=f' t):rowB (w.setCell ⟨g,t0,none⟩ (.int .u8 x)).drew g n f':=by
 refine⟨fun t ht=>?_,fun t ht=>?_⟩
 ·rw[World.cell?_drew]
  by_cases e:t=t0
  ·subst e;rw[World.cell?_setCell_same _ _ _ (h.cell t ht),hx]
  ·rw[World.cell?_setCell_other _ _ _ _ (by intro hh;exact e (by simpa using hh.symm)),h.cell t ht,he t ht e]
 ·rw[World.frozen?_drew,World.frozen?_setCell]
  exact h.free t ht
theorem wT {P:Program} {md:Region.Mode} {ops:Array Oper} {Q:Exit→Act→World→Prop} {S:World→Prop} {i:Nat} {oi:Oper} {v:Value} {fuel:Nat} {listed:Array Bool} {a:Act} {w:World} (hi:ops[i]?=some oi) (hs:Region.noSelect ops=true) (hf:Region.free md ops listed i=true) (hr:(Region.ready md ops listed).contains i=true) (hQ:∀ c a w,Q (.panic c) (a.put oi.dst v) w→Q (.panic c) a w) (hy:YieldsIf P ops S oi v a) (hS:S w) (h:wpAnyH P md ops Q S fuel (listed.setIfInBounds i true) (a.put oi.dst v) w):wpAnyH P md ops Q S (fuel+1) listed a w:=wpAnyH_take hi hs hf hr hQ hy hS h
theorem aA {α:Type} (l:List α) (i:Nat) (a:α):l.toArray.setIfInBounds i a=(l.set i a).toArray:=List.setIfInBounds_toArray ..
theorem aB {α:Type} (x:α) (l:List α) (a:α):(x :: l).set 0 a=a :: l:=rfl
theorem aC {α:Type} (x:α) (l:List α) (n:Nat) (a:α):(x :: l).set (n+1) a=x :: l.set n a:=rfl
theorem aD {α:Type} (l:List α) (i:Nat) (h:i<l.toArray.size):l.toArray[i]=l[i]'(by simpa using h):=List.getElem_toArray ..
theorem aE {α:Type} (a:α) (l:List α) (h:0<(a :: l).length):(a :: l)[0]=a:=rfl
theorem aF {α:Type} (a:α) (l:List α) (i:Nat) (h:i+1<(a :: l).length):(a :: l)[i+1]=l[i]'(Nat.lt_of_succ_lt_succ h):=rfl
structure isBytes (w:World) (a:Option Addr) (n cap:Nat) (l:List Nat):Prop where
 len:n=l.length
 cap:n≤cap
 small:∀ x ∈ l,x<256
 cells:l≠[]→∃ g off,a=some ⟨g,off,none⟩∧∀ j (h:j<l.length),w.cell? ⟨g,off+j,none⟩=some (.int .u8 (l[j]:Int))
theorem isBytes.below {w w':World} {a:Option Addr} {n cap:Nat} {l:List Nat} (h:isBytes w a n cap l) (hb:Below w.heap.size w w'):isBytes w' a n cap l:=by
 refine⟨h.len,h.cap,h.small,fun hl=>?_⟩
 obtain⟨g,off,ha,hc⟩:=h.cells hl
 refine⟨g,off,ha,fun j hj=>?_⟩
 have h1:=hc j hj
 rw[hb.cell (World.block_lt_of_cell? w _ h1)]
 exact h1
def rowF (w:World) (g m:Nat):Prop:=∀ t,t<m→(∃ v,w.cell? ⟨g,t,none⟩=some v)∧w.frozen? ⟨g,t,none⟩=false
theorem rowF.up {w W:World} {g m:Nat} (h:rowF w g m) (he:W.heap[g]?=w.heap[g]?):rowF W g m:=fun t ht=>by
 have:=h t ht
 simp only[World.cell?,World.frozen?,he] at this ⊢
 exact this
theorem rowF.setOther {w:World} {g m:Nat} (h:rowF w g m) (b j:Nat) (v:Value) (hb:b≠g):rowF (w.setCell ⟨b,j,none⟩ v) g m:=h.up (heap_setCell_other w ⟨b,j,none⟩ g v (fun e=>hb e.symm))
abbrev frV (e:Bool) (i:Nat) (r:Bool) (d:Int) (a:Option Addr) (n cap:Nat):Value:=.agg #[.bool e,.int .u32 (i:Int),.bool r,.int .i64 d,.slice a n cap]
abbrev frC (e:Bool) (i:Nat) (r:Bool) (d:Int) (a:Option Addr) (n cap:Nat) (T:TypeId):Obj:=.cells #[.bool e,.int .u32 (i:Int),.bool r,.int .i64 d,.slice a n cap] T
theorem isBytes.other {w w':World} {g n cap:Nat} {l:List Nat} (h:isBytes w (some ⟨g,0,none⟩) n cap l) (hk:w'.heap[g]?=w.heap[g]?):isBytes w' (some ⟨g,0,none⟩) n cap l:=by
 refine⟨h.len,h.cap,h.small,fun hl=>?_⟩
 obtain⟨g',off,ha,hc⟩:=h.cells hl
 cases ha
 refine⟨g,0,rfl,fun t ht=>?_⟩
 have:=hc t ht
 simp only[World.cell?,hk] at this ⊢
 exact this
theorem isBytes.setOther {w:World} {g n cap:Nat} {l:List Nat} (h:isBytes w (some ⟨g,0,none⟩) n cap l) (b j:Nat) (v:Value) (hb:b≠g):isBytes (w.setCell ⟨b,j,none⟩ v) (some ⟨g,0,none⟩) n cap l:=by
 refine⟨h.len,h.cap,h.small,fun hl=>?_⟩
 obtain⟨g',off,ha,hc⟩:=h.cells hl
 refine⟨g',off,ha,fun t ht=>?_⟩
 cases ha
 rw[World.cell?_setCell_other _ _ _ _ (by intro hh;exact hb (congrArg Addr.block hh))]
 exact hc t ht
abbrev flV (e:Bool) (m k:Int):Value:=.agg #[.bool e,.int .u32 m,.int .u32 k]
abbrev cfV (a b c d:Int):Value:=.agg #[.int .i64 a,.int .i64 b,.int .i64 c,.int .i64 d]
abbrev bxV (x y z:Int) (e:Bool) (i:Nat) (r:Bool) (d:Int) (a:Option Addr) (n cap:Nat):Value:=.agg #[.int .i64 x,.int .i64 y,.int .i64 z,.bool e,.int .u32 (i:Int),.bool r,.int .i64 d,.slice a n cap]
structure R3 where
 e:Bool
 m:Int
 k:Int
structure at3 (w:World) (g o:Nat) (b:R3):Prop where
 c0:w.cell? ⟨g,o,none⟩=some (.bool b.e)
 c1:w.cell? ⟨g,o+1,none⟩=some (.int .u32 b.m)
 c2:w.cell? ⟨g,o+2,none⟩=some (.int .u32 b.k)
structure isR3s (w:World) (a:Option Addr) (n cap:Nat) (bs:List R3):Prop where
 len:n=bs.length
 cap:n≤cap
 cells:bs≠[]→∃ g off,a=some ⟨g,off,none⟩∧∀ j (h:j<bs.length),at3 w g (off+j*3) bs[j]
theorem at3.below {w w':World} {g o:Nat} {b:R3} (h:at3 w g o b) (hb:Below w.heap.size w w'):at3 w' g o b:=by
 have hg:=World.block_lt_of_cell? w _ h.c0
 exact⟨(hb.cell (by exact hg)).trans h.c0,(hb.cell (by exact hg)).trans h.c1,(hb.cell (by exact hg)).trans h.c2⟩
theorem isR3s.below {w w':World} {a:Option Addr} {n cap:Nat} {bs:List R3} (h:isR3s w a n cap bs) (hb:Below w.heap.size w w'):isR3s w' a n cap bs:=by
 refine⟨h.len,h.cap,fun hl=>?_⟩
 obtain⟨g,off,ha,hc⟩:=h.cells hl
 exact⟨g,off,ha,fun j hj=>(hc j hj).below hb⟩
theorem Tryz.info85:(Tryz.prog.info? 85).map (fun i=>(i.zero,i.size,i.bytes))=some (some (.agg #[.bool false,.int .u32 0,.int .u32 0]),3,12):=by kernel_rfl
structure rowZ (w:World) (g N:Nat):Prop where
 cell:∀ t,t<N→∃ v,w.cell? ⟨g,t,none⟩=some v
 free:∀ t,w.frozen? ⟨g,t,none⟩=false
theorem make_Z {ops:Array Oper} {rest:List Oper} {o:Oper} {a:Act} {Q:Exit→Act→World→Prop} (w:World) (T E:TypeId) (Z:Value) (sz by_:Nat) (hi0:(Tryz.prog.info? E).map (fun i=>(i.zero,i.size,i.bytes))=some (some Z,sz,by_)) (hu:Tryz.prog.underlying T=some (.slice E)) (hby:by_≤1000)
  (hg:o.guard=none) (l c:Operand) (hop:o.op=Op.makeSlice T l c) (C:Int) (n:Nat) (hl:a.eval l = .int .i64 C) (hc:a.eval c = .int .i64 C) (hC:C=(n:Int)) (hn:n≤100000000)
  (hK:∀ w',rowZ w' w.heap.size (n*sz)→w.grownBy w' none→w.heap.size<w'.heap.size→wpList Tryz.prog ops Q rest (a.put o.dst (.slice (some ⟨w.heap.size,0,none⟩) n n)) w') :
  wpList Tryz.prog ops Q (o :: rest) a w:=by
 obtain⟨i0,hi,hz0,hz1,hz2⟩:=info_parts hi0
 have hmul:by_*n≤1000*n:=Nat.mul_le_mul_right _ hby
 refine wpList_make_full w hg l c T hop w.heap.size E i0 Z sz hu hi hz0 hz1 .i64 .i64 C C n hl hc hC hC (by rw[hz2];omega) (by unfold maxLen;omega) (Nat.le_refl _) ?_
 intro w' ho hgr;refine hK w' ⟨fun t ht=>?_,fun t=>World.ownsRow.frozenAt ho t⟩ hgr (World.ownsRow.lt ho _ rfl).2
 rw[World.ownsRow.cellAt ho t (by omega)]
 have hlen:(madeCells Z.cells (n*sz)).toList.length=n*sz:=ho.1
 exact⟨_,List.getElem?_eq_getElem (by omega)⟩
def setRow (W:World) (g:Nat):Nat→List Value→World
 | _,[]=>W
 | p,v :: vs=>setRow (W.setCell ⟨g,p,none⟩ v) g (p+1) vs
theorem setRow_other (g:Nat):∀ (vs:List Value) (W:World) (p t:Nat),(t<p∨p+vs.length≤t)→(setRow W g p vs).cell? ⟨g,t,none⟩=W.cell? ⟨g,t,none⟩:=by
 intro vs;induction vs with
 | nil=>intro W p t _;rfl
 | cons v vs ih=>
  intro W p t h;simp only[List.length_cons] at h
  show (setRow (W.setCell ⟨g,p,none⟩ v) g (p+1) vs).cell? _=_
  rw[ih _ (p+1) t (by omega),World.cell?_setCell_other _ _ _ _ (by intro e;simp at e;try omega)]
theorem setRow_block (g:Nat) (b:Nat) (hb:b≠g):∀ (vs:List Value) (W:World) (p:Nat),(setRow W g p vs).heap[b]?=W.heap[b]?:=by
 intro vs;induction vs with
 | nil=>intro W p;rfl
 | cons v vs ih=>intro W p;exact (ih _ (p+1)).trans (heap_setCell_other W ⟨g,p,none⟩ b v hb)
theorem setRow_frozen (g:Nat) (q:Addr):∀ (vs:List Value) (W:World) (p:Nat),(setRow W g p vs).frozen? q=W.frozen? q:=by
 intro vs;induction vs with
 | nil=>intro W p;rfl
 | cons v vs ih=>intro W p;rw[setRow,ih,World.frozen?_setCell]
theorem setRow_below (g B:Nat) (hB:B≤g) (w0:World):∀ (vs:List Value) (W:World) (p:Nat),Below B w0 W→Below B w0 (setRow W g p vs):=by
 intro vs;induction vs with
 | nil=>intro W p h;exact h
 | cons v vs ih=>intro W p h;exact ih _ _ (h.setCell (p:=⟨g,p,none⟩) (by simpa using hB) v)
theorem setRow_at (g:Nat):∀ (vs:List Value) (W:World) (p t:Nat) (ht:t<vs.length),(∃ u,W.cell? ⟨g,p+t,none⟩=some u)→(setRow W g p vs).cell? ⟨g,p+t,none⟩=some vs[t]:=by
 intro vs;induction vs with
 | nil=>intro W p t ht;cases ht
 | cons v vs ih=>
  intro W p t ht hu;cases t with
  | zero=>
   obtain⟨u,hu⟩:=hu
   show (setRow (W.setCell ⟨g,p,none⟩ v) g (p+1) vs).cell? ⟨g,p,none⟩=some v
   rw[setRow_other g vs _ (p+1) p (by omega)]
   exact World.cell?_setCell_same _ _ _ hu
  | succ t=>
   have e:p+(t+1)=p+1+t:=by omega
   rw[e] at hu ⊢
   refine ih _ (p+1) t (by simpa using ht) ?_
   rw[World.cell?_setCell_other _ _ _ _ (by intro e2;simp at e2;try omega)]
   exact hu
theorem setRow_size (g:Nat):∀ (vs:List Value) (W:World) (p:Nat),(setRow W g p vs).heap.size=W.heap.size:=by
 intro vs;induction vs with
 | nil=>intro W p;rfl
 | cons v vs ih=>intro W p;rw[setRow,ih];simp
theorem rowZ.put {w:World} {g N:Nat} (h:rowZ w g N) (vs:List Value) (p:Nat) (_hp:p+vs.length≤N):rowZ (setRow w g p vs) g N:=by
 refine⟨fun t ht=>?_,fun t=>by rw[setRow_frozen];exact h.free t⟩
 by_cases h1:t<p∨p+vs.length≤t
 ·rw[setRow_other g vs w p t h1];exact h.cell t ht
 ·have e:t=p+(t-p):=by omega
  have:=setRow_at g vs w p (t-p) (by omega) (by rw[← e];exact h.cell t ht)
  rw[← e] at this
  exact⟨_,this⟩
theorem rowZ.below {w w':World} {g N:Nat} (h:rowZ w g N) (hb:Below w.heap.size w w') (hg:g<w.heap.size):rowZ w' g N:=
 ⟨fun t ht=>by obtain⟨v,hv⟩:=h.cell t ht;exact⟨v,(hb.cell (by exact hg)).trans hv⟩,fun t=>(hb.frozen (by exact hg)).trans (h.free t)⟩
theorem at3.keep {w:World} {g o:Nat} {b:R3} (h:at3 w g o b) (vs:List Value) (p:Nat) (hp:o+3≤p∨p+vs.length≤o):at3 (setRow w g p vs) g o b:=
 ⟨(setRow_other g vs w p o (by omega)).trans h.c0,(setRow_other g vs w p (o+1) (by omega)).trans h.c1,(setRow_other g vs w p (o+2) (by omega)).trans h.c2⟩
theorem at3.new {w:World} {g N:Nat} (h:rowZ w g N) (p:Nat) (hp:p+3≤N) (b:R3):at3 (setRow w g p [.bool b.e,.int .u32 b.m,.int .u32 b.k]) g p b:=
 ⟨setRow_at g _ w p 0 (by simp) (h.cell p (by omega)),setRow_at g _ w p 1 (by simp) (h.cell (p+1) (by omega)),setRow_at g _ w p 2 (by simp) (h.cell (p+2) (by omega))⟩
def St (B:Nat) (w:World) (p:World→Prop):Prop:=∀ W,(∀ k,B≤k→k<w.heap.size→W.heap[k]?=w.heap[k]?)→p W
theorem St.now {B:Nat} {w:World} {p:World→Prop} (h:St B w p):p w:=h w fun _ _ _=>rfl
theorem St.below {B:Nat} {w w':World} {p:World→Prop} (h:St B w p) (hb:Below w.heap.size w w'):St B w' p:=fun W hW=>h W fun k h1 h2=>(hW k h1 (Nat.lt_of_lt_of_le h2 hb.size)).trans (hb.block k h2)
theorem St.set {B:Nat} {w:World} {p:World→Prop} (h:St B w p) (b j:Nat) (hb:b<B) (v:Value):St B (w.setCell ⟨b,j,none⟩ v) p:=fun W hW=>h W fun k h1 h2=>(hW k h1 (by simpa using h2)).trans (heap_setCell_other w ⟨b,j,none⟩ k v (by show k≠b;omega))
theorem St.mono {B B':Nat} {w:World} {p:World→Prop} (h:St B w p) (hB:B'≤B):St B' w p:=fun W hW=>h W fun k h1 h2=>hW k (by omega) h2
theorem cell_up {W w:World} {g o:Nat} {v:Value} (h:w.cell? ⟨g,o,none⟩=some v) (he:W.heap[g]?=w.heap[g]?):W.cell? ⟨g,o,none⟩=some v:=by
 simp only[World.cell?,he] at h ⊢
 exact h
theorem at3.up {W w:World} {g o:Nat} {b:R3} (h:at3 w g o b) (he:W.heap[g]?=w.heap[g]?):at3 W g o b:=⟨cell_up h.c0 he,cell_up h.c1 he,cell_up h.c2 he⟩
theorem rowZ.F {w:World} {g N:Nat} (h:rowZ w g N):rowF w g N:=fun t ht=>⟨h.cell t ht,h.free t⟩
structure R5 where
 e:Bool
 i:Nat
 r:Bool
 d:Int
 l:List Nat
structure at5 (w:World) (g o:Nat) (b:R5) (ao:Option Addr) (m c:Nat):Prop where
 c0:w.cell? ⟨g,o,none⟩=some (.bool b.e)
 c1:w.cell? ⟨g,o+1,none⟩=some (.int .u32 (b.i:Int))
 c2:w.cell? ⟨g,o+2,none⟩=some (.bool b.r)
 c3:w.cell? ⟨g,o+3,none⟩=some (.int .i64 b.d)
 cs:w.cell? ⟨g,o+4,none⟩=some (.slice ao m c)
 dat:isBytes w ao m c b.l
structure isR5s (w:World) (a:Option Addr) (n cap:Nat) (bs:List R5):Prop where
 len:n=bs.length
 cap:n≤cap
 cells:bs≠[]→∃ g off,a=some ⟨g,off,none⟩∧∀ j (h:j<bs.length),∃ ao m c,at5 w g (off+j*5) bs[j] ao m c
theorem at5.below {w w':World} {g o:Nat} {b:R5} {ao:Option Addr} {m c:Nat} (h:at5 w g o b ao m c) (hb:Below w.heap.size w w'):at5 w' g o b ao m c:=by
 have hg:=World.block_lt_of_cell? w _ h.c0
 exact⟨(hb.cell (by exact hg)).trans h.c0,(hb.cell (by exact hg)).trans h.c1,(hb.cell (by exact hg)).trans h.c2,(hb.cell (by exact hg)).trans h.c3,(hb.cell (by exact hg)).trans h.cs,h.dat.below hb⟩
theorem isR5s.below {w w':World} {a:Option Addr} {n cap:Nat} {bs:List R5} (h:isR5s w a n cap bs) (hb:Below w.heap.size w w'):isR5s w' a n cap bs:=by
 refine⟨h.len,h.cap,fun hl=>?_⟩
 obtain⟨g,off,ha,hc⟩:=h.cells hl
 exact⟨g,off,ha,fun j hj=>by obtain⟨ao,m,c,hat⟩:=hc j hj;exact⟨ao,m,c,hat.below hb⟩⟩
theorem at5.up {W w:World} {g o:Nat} {b:R5} {gd m c:Nat} (h:at5 w g o b (some ⟨gd,0,none⟩) m c) (he:W.heap[g]?=w.heap[g]?) (hd:W.heap[gd]?=w.heap[gd]?):at5 W g o b (some ⟨gd,0,none⟩) m c:=
 ⟨cell_up h.c0 he,cell_up h.c1 he,cell_up h.c2 he,cell_up h.c3 he,cell_up h.cs he,h.dat.other hd⟩
theorem at5.keep {w:World} {g o:Nat} {b:R5} {gd m c:Nat} (h:at5 w g o b (some ⟨gd,0,none⟩) m c) (hne:gd≠g) (vs:List Value) (p:Nat) (hp:o+5≤p∨p+vs.length≤o):at5 (setRow w g p vs) g o b (some ⟨gd,0,none⟩) m c:=
 ⟨(setRow_other g vs w p (o) (by omega)).trans h.c0,(setRow_other g vs w p (o+1) (by omega)).trans h.c1,(setRow_other g vs w p (o+2) (by omega)).trans h.c2,(setRow_other g vs w p (o+3) (by omega)).trans h.c3,(setRow_other g vs w p (o+4) (by omega)).trans h.cs,h.dat.other (setRow_block g gd hne vs w p)⟩
theorem at5.new {w:World} {g M:Nat} (h:rowZ w g M) (p:Nat) (hp:p+5≤M) (b:R5) (gd m:Nat) (hne:gd≠g) (hd:isBytes w (some ⟨gd,0,none⟩) m m b.l):at5 (setRow w g p [.bool b.e,.int .u32 (b.i:Int),.bool b.r,.int .i64 b.d,.slice (some ⟨gd,0,none⟩) m m]) g p b (some ⟨gd,0,none⟩) m m:=
 ⟨setRow_at g _ w p 0 (by simp) (h.cell (p+0) (by omega)),setRow_at g _ w p 1 (by simp) (h.cell (p+1) (by omega)),setRow_at g _ w p 2 (by simp) (h.cell (p+2) (by omega)),setRow_at g _ w p 3 (by simp) (h.cell (p+3) (by omega)),setRow_at g _ w p 4 (by simp) (h.cell (p+4) (by omega)),hd.other (setRow_block g gd hne _ w p)⟩
structure R8 where
 x:Int
 y:Int
 z:Int
 e:Bool
 i:Nat
 r:Bool
 d:Int
 l:List Nat
structure at8 (w:World) (g o:Nat) (b:R8) (ao:Option Addr) (m c:Nat):Prop where
 c0:w.cell? ⟨g,o,none⟩=some (.int .i64 b.x)
 c1:w.cell? ⟨g,o+1,none⟩=some (.int .i64 b.y)
 c2:w.cell? ⟨g,o+2,none⟩=some (.int .i64 b.z)
 c3:w.cell? ⟨g,o+3,none⟩=some (.bool b.e)
 c4:w.cell? ⟨g,o+4,none⟩=some (.int .u32 (b.i:Int))
 c5:w.cell? ⟨g,o+5,none⟩=some (.bool b.r)
 c6:w.cell? ⟨g,o+6,none⟩=some (.int .i64 b.d)
 cs:w.cell? ⟨g,o+7,none⟩=some (.slice ao m c)
 dat:isBytes w ao m c b.l
structure isR8s (w:World) (a:Option Addr) (n cap:Nat) (bs:List R8):Prop where
 len:n=bs.length
 cap:n≤cap
 cells:bs≠[]→∃ g off,a=some ⟨g,off,none⟩∧∀ j (h:j<bs.length),∃ ao m c,at8 w g (off+j*8) bs[j] ao m c
theorem at8.below {w w':World} {g o:Nat} {b:R8} {ao:Option Addr} {m c:Nat} (h:at8 w g o b ao m c) (hb:Below w.heap.size w w'):at8 w' g o b ao m c:=by
 have hg:=World.block_lt_of_cell? w _ h.c0
 exact⟨(hb.cell (by exact hg)).trans h.c0,(hb.cell (by exact hg)).trans h.c1,(hb.cell (by exact hg)).trans h.c2,(hb.cell (by exact hg)).trans h.c3,(hb.cell (by exact hg)).trans h.c4,(hb.cell (by exact hg)).trans h.c5,(hb.cell (by exact hg)).trans h.c6,(hb.cell (by exact hg)).trans h.cs,h.dat.below hb⟩
theorem isR8s.below {w w':World} {a:Option Addr} {n cap:Nat} {bs:List R8} (h:isR8s w a n cap bs) (hb:Below w.heap.size w w'):isR8s w' a n cap bs:=by
 refine⟨h.len,h.cap,fun hl=>?_⟩
 obtain⟨g,off,ha,hc⟩:=h.cells hl
 exact⟨g,off,ha,fun j hj=>by obtain⟨ao,m,c,hat⟩:=hc j hj;exact⟨ao,m,c,hat.below hb⟩⟩
theorem at8.up {W w:World} {g o:Nat} {b:R8} {gd m c:Nat} (h:at8 w g o b (some ⟨gd,0,none⟩) m c) (he:W.heap[g]?=w.heap[g]?) (hd:W.heap[gd]?=w.heap[gd]?):at8 W g o b (some ⟨gd,0,none⟩) m c:=
 ⟨cell_up h.c0 he,cell_up h.c1 he,cell_up h.c2 he,cell_up h.c3 he,cell_up h.c4 he,cell_up h.c5 he,cell_up h.c6 he,cell_up h.cs he,h.dat.other hd⟩
theorem at8.keep {w:World} {g o:Nat} {b:R8} {gd m c:Nat} (h:at8 w g o b (some ⟨gd,0,none⟩) m c) (hne:gd≠g) (vs:List Value) (p:Nat) (hp:o+8≤p∨p+vs.length≤o):at8 (setRow w g p vs) g o b (some ⟨gd,0,none⟩) m c:=
 ⟨(setRow_other g vs w p (o) (by omega)).trans h.c0,(setRow_other g vs w p (o+1) (by omega)).trans h.c1,(setRow_other g vs w p (o+2) (by omega)).trans h.c2,(setRow_other g vs w p (o+3) (by omega)).trans h.c3,(setRow_other g vs w p (o+4) (by omega)).trans h.c4,(setRow_other g vs w p (o+5) (by omega)).trans h.c5,(setRow_other g vs w p (o+6) (by omega)).trans h.c6,(setRow_other g vs w p (o+7) (by omega)).trans h.cs,h.dat.other (setRow_block g gd hne vs w p)⟩
theorem at8.new {w:World} {g M:Nat} (h:rowZ w g M) (p:Nat) (hp:p+8≤M) (b:R8) (gd m:Nat) (hne:gd≠g) (hd:isBytes w (some ⟨gd,0,none⟩) m m b.l):at8 (setRow w g p [.int .i64 b.x,.int .i64 b.y,.int .i64 b.z,.bool b.e,.int .u32 (b.i:Int),.bool b.r,.int .i64 b.d,.slice (some ⟨gd,0,none⟩) m m]) g p b (some ⟨gd,0,none⟩) m m:=
 ⟨setRow_at g _ w p 0 (by simp) (h.cell (p+0) (by omega)),setRow_at g _ w p 1 (by simp) (h.cell (p+1) (by omega)),setRow_at g _ w p 2 (by simp) (h.cell (p+2) (by omega)),setRow_at g _ w p 3 (by simp) (h.cell (p+3) (by omega)),setRow_at g _ w p 4 (by simp) (h.cell (p+4) (by omega)),setRow_at g _ w p 5 (by simp) (h.cell (p+5) (by omega)),setRow_at g _ w p 6 (by simp) (h.cell (p+6) (by omega)),setRow_at g _ w p 7 (by simp) (h.cell (p+7) (by omega)),hd.other (setRow_block g gd hne _ w p)⟩
structure wr5 (B T:Nat) (W:World) (g n:Nat):Prop where
 row:rowF W g (n*5)
 lo:B≤g
 hi:g<T
 dat:∀ j,j<n→∃ gd m,W.cell? ⟨g,j*5+4,none⟩=some (.slice (some ⟨gd,0,none⟩) m m)∧rowF W gd m∧gd≠g∧B≤gd∧gd<T
theorem wr5.mono {B T B' T':Nat} {W:World} {g n:Nat} (h:wr5 B T W g n) (hB:B'≤B) (hT:T≤T'):wr5 B' T' W g n:=
 ⟨h.row,by have:=h.lo;omega,by have:=h.hi;omega,fun j hj=>by obtain⟨gd,m,h1,h2,h3,h4,h5⟩:=h.dat j hj;exact⟨gd,m,h1,h2,h3,by omega,by omega⟩⟩
theorem Tryz.info25:(Tryz.prog.info? 25).map (fun i=>(i.zero,i.size,i.bytes))=some (some (.agg #[.bool false,.int .u32 0,.bool false,.int .i64 0,.slice none 0 0]),5,48):=by kernel_rfl
theorem setCells_row (g:Nat):∀ (vs:List Value) (w:World) (p:Nat),w.setCells g p vs=setRow w g p vs:=by
 intro vs;induction vs with
 | nil=>intro w p;rfl
 | cons v vs ih=>intro w p;exact ih _ (p+1)
theorem rowZ.there {w:World} {g N:Nat} (h:rowZ w g N) (p n:Nat) (hp:p+n≤N):w.there g p n:=fun j hj=>by
 obtain⟨v,hv⟩:=h.cell (p+j) (by omega)
 exact⟨by rw[hv];rfl,h.free _⟩
theorem one8 (x y z:Int) (e:Bool) (i:Int) (r:Bool) (d:Int) (a:Option Addr) (n c:Nat):(#[.int .i64 x,.int .i64 y,.int .i64 z,.bool e,.int .u32 i,.bool r,.int .i64 d,.slice a n c]:Array Value).all (·.oneCell')=true:=
 all_oneCell_toArray (by simp[Value.oneCell'])
structure wr8 (B T:Nat) (W:World) (g n:Nat):Prop where
 row:rowF W g (n*8)
 lo:B≤g
 hi:g<T
 dat:∀ j,j<n→∃ gd m,W.cell? ⟨g,j*8+7,none⟩=some (.slice (some ⟨gd,0,none⟩) m m)∧rowF W gd m∧gd≠g∧B≤gd∧gd<T
theorem wr8.mono {B T B' T':Nat} {W:World} {g n:Nat} (h:wr8 B T W g n) (hB:B'≤B) (hT:T≤T'):wr8 B' T' W g n:=
 ⟨h.row,by have:=h.lo;omega,by have:=h.hi;omega,fun j hj=>by obtain⟨gd,m,h1,h2,h3,h4,h5⟩:=h.dat j hj;exact⟨gd,m,h1,h2,h3,by omega,by omega⟩⟩
theorem sz95:(Tryz.prog.info? 97).map (·.size)=some 8:=by kernel_rfl
theorem sz129:(Tryz.prog.info? 46).map (·.size)=some 8:=by kernel_rfl
theorem Tryz.info97:(Tryz.prog.info? 97).map (fun i=>(i.zero,i.size,i.bytes))=some (some (.agg #[.int .i64 0,.int .i64 0,.int .i64 0,.bool false,.int .u32 0,.bool false,.int .i64 0,.slice none 0 0]),8,72):=by kernel_rfl
theorem Tryz.info46:(Tryz.prog.info? 46).map (fun i=>(i.zero,i.size,i.bytes))=some (some (.agg #[.int .i64 0,.int .i64 0,.int .i64 0,.bool false,.int .u32 0,.bool false,.int .i64 0,.slice none 0 0]),8,72):=by kernel_rfl
structure Ho where
 c0:Int
 c1:Int
 c2:Int
 c3:Int
 fs:List R3
 bx:List R8
 ff:List R5
 qu:List R8
 lo:Int
 st:Int
structure Sl where
 a1:Option Addr
 n1:Nat
 k1:Nat
 a2:Option Addr
 n2:Nat
 k2:Nat
 a3:Option Addr
 n3:Nat
 k3:Nat
 a4:Option Addr
 n4:Nat
 k4:Nat
structure isHo (w:World) (H:Ho) (s:Sl):Prop where
 fs:isR3s w s.a1 s.n1 s.k1 H.fs
 bx:isR8s w s.a2 s.n2 s.k2 H.bx
 ff:isR5s w s.a3 s.n3 s.k3 H.ff
 qu:isR8s w s.a4 s.n4 s.k4 H.qu
theorem isHo.below {w w':World} {H:Ho} {s:Sl} (h:isHo w H s) (hb:Below w.heap.size w w'):isHo w' H s:=⟨h.fs.below hb,h.bx.below hb,h.ff.below hb,h.qu.below hb⟩
structure Ho.le (H:Ho) (m:Nat):Prop where
 fs:H.fs.length≤m
 bx:H.bx.length≤m
 ff:H.ff.length≤m
 qu:H.qu.length≤m
 bd:∀ j (h:j<H.bx.length),H.bx[j].l.length≤m
 fd:∀ j (h:j<H.ff.length),H.ff[j].l.length≤m
 qd:∀ j (h:j<H.qu.length),H.qu[j].l.length≤m
abbrev hoV (H:Ho) (s:Sl):Value:=.agg #[.int .i64 H.c0,.int .i64 H.c1,.int .i64 H.c2,.int .i64 H.c3,.slice s.a1 s.n1 s.k1,.slice s.a2 s.n2 s.k2,.slice s.a3 s.n3 s.k3,.slice s.a4 s.n4 s.k4,.int .i64 H.lo,.int .i64 H.st]
structure wrHo (B T:Nat) (W:World) (s:Sl):Prop where
 e:∃ g1 g2 g3 g4,s=⟨some ⟨g1,0,none⟩,s.n1,s.n1,some ⟨g2,0,none⟩,s.n2,s.n2,some ⟨g3,0,none⟩,s.n3,s.n3,some ⟨g4,0,none⟩,s.n4,s.n4⟩∧rowF W g1 (s.n1*3)∧(B≤g1∧g1<T)∧wr8 B T W g2 s.n2∧wr5 B T W g3 s.n3∧wr8 B T W g4 s.n4
end Go.Proofs.YtaamahohdnbpiaaGreat
