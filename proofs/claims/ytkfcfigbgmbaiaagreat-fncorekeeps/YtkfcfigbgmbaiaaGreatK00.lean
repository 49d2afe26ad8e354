import Derived.Test.YtkfcfigbgmbaiaaGreatProg
import Derived.WalkKit
import Derived.WalkSpells
import Derived.WalkLawsBesides
import Derived.Deep.QuietTactic
import Derived.BigQuiet
import Derived.Below
import Derived.Laws.BitsAllLaws
import Derived.Laws.IdiomStrings
import Derived.Deep.RegionWith
import Derived.Deep.MidRow
import Derived.Maps.AppendAt
namespace Go.Proofs.YtkfcfigbgmbaiaaGreat
open Go.RowKit
open Go.Value renaming int→I,slice→sL,bool→bO,pointer→pT,agg→aG
open Go.IntKind renaming i64→J
open Go.Ending renaming returned→rT
open Go.Proofs.Tryz renaming prog→Tp
theorem ret_int {k:IntKind} {a b:Int} (h:a=b):Ending.returned (.int k a) = rT (.int k b):=by rw[h]
theorem ret_bool {a b:Bool} (h:a=b):Ending.returned (bO a) = rT (bO b):=by rw[h]
theorem Tryz.info5:(Tp.info? 5).map (fun i=>(i.zero,i.size,i.bytes))=some (some (I .u8 0),1,1):=by kernel_rfl
def bv (l:List Nat):List Value:=l.map (fun x:Nat=>Value.int .u8 (x:Int))
theorem bv_append (l m:List Nat):bv (l++m)=bv l++bv m:=by simp[bv]
theorem bv_at (l:List Nat) (j:Nat) (h:j<l.length):(bv l)[j]?=some (Value.int .u8 (l[j]:Int)):=by simp[bv,h]
def ownsB (w:World) (B:Nat) (v:Value) (l:List Nat):Prop:=w.ownsRow B 5 1 v l.length (bv l)
theorem app_byte {ops:Array Oper} {rest:List Oper} {o:Oper} {a:Act} {Q:Exit→Act→World→Prop} (w0 wr:World) (hgd:o.guard=none) (s x:Operand)
  (ho:o.op = .call { callee:=.builtin .append,args:=#[s,x],argTypes:=#[50,50] })
  (B:Nat) (v:Value) (l:List Nat) (c:Nat) (ci:Int) (hci:ci=(c:Int)) (hs:a.eval s=v) (hown:ownsB wr B v l)
  (hx:a.eval x = sL (some ⟨wr.heap.size,0,none⟩) 1 1) (hlen:l.length≤100000000) (hB:B≤wr.heap.size) (hbel:Below B w0 wr)
  (h:∀ v' w',ownsB w' B v' (l++[c])→Below B w0 w'→B≤w'.heap.size→wpList Tp ops Q rest (a.put o.dst v') w') :
  wpList Tp ops Q (o :: rest) a (wr.alloc (.cells #[I .u8 ci] 5)):=by
 subst hci;obtain⟨i0,hi,hz0,hz1,hz2⟩:=info_parts Tryz.info5
 refine wpList_append_own _ hgd s x 50 ho B 5 i0 (I .u8 0) 1 1 Tryz.underlying50 hi hz0 hz1 hz2 rfl (by decide) v l.length (bv l) hs (World.ownsRow.alloc hown _) ⟨wr.heap.size,0,none⟩ 1 1 [I .u8 (c:Int)] hx rfl ?_ ?_ ?_ ?_ ?_ ?_
 ·intro j u hj;match j,hj with
  | 0,hj=>simp at hj;subst hj;simp[Addr.add]
 ·intro u hu;simp at hu;subst hu;rfl
 ·unfold maxLen;omega
 ·omega
 ·simp;omega
 ·intro v' w' ho' hg _;have hr:∀ k,v.ownBlock=some k→B≤k:=fun k hk=>(World.ownsRow.lt hown k hk).1
  refine h v' w' ?_ ((hbel.alloc hB _).grown hg (by simp;omega) hr) (Nat.le_trans (by simp;omega) hg.size)
  have e1:bv (l++[c])=bv l++[I .u8 (c:Int)]:=by simp[bv]
  unfold ownsB
  rw[e1,List.length_append]
  exact ho'
theorem own_nil (w:World) (B:Nat) (hB:B≤w.heap.size):ownsB (w.alloc (.cells #[] 5)) B (sL (some ⟨w.heap.size,0,none⟩) 0 0) []:=
 World.ownsRow_made w #[] 0 hB (by decide) rfl
structure rowB (w:World) (g n:Nat) (f:Nat→Nat):Prop where
 cell:∀ t,t<n→w.cell? ⟨g,t,none⟩=some (I .u8 (f t:Int))
 free:∀ t,t<n→w.frozen? ⟨g,t,none⟩=false
theorem rowB.of {w:World} {g n:Nat} {f f':Nat→Nat} (h:rowB w g n f) (he:∀ t,t<n→f t=f' t):rowB w g n f':=
 ⟨fun t ht=>by rw[← he t ht];exact h.cell t ht,h.free⟩
theorem rowB.set {w:World} {g n:Nat} {f f':Nat→Nat} (h:rowB w g n f) (t0:Nat) (ht0:t0<n) (x:Int) (hx:x=(f' t0:Int)) (he:∀ t,t<n→t≠t0→f t=f' t):rowB (w.setCell ⟨g,t0,none⟩ (I .u8 x)).drew g n f':=by
 refine⟨fun t ht=>?_,fun t ht=>?_⟩
 ·rw[World.cell?_drew]
  by_cases e:t=t0
  ·subst e;rw[World.cell?_setCell_same _ _ _ (h.cell t ht),hx]
  ·rw[World.cell?_setCell_other _ _ _ _ (by intro hh;exact e (by simpa using hh.symm)),h.cell t ht,he t ht e]
 ·rw[World.frozen?_drew,World.frozen?_setCell]
  exact h.free t ht
theorem wT {P:Program} {md:Region.Mode} {ops:Array Oper} {Q:Exit→Act→World→Prop} {S:World→Prop} {i:Nat} {oi:Oper} {v:Value} {fuel:Nat} {listed:Array Bool} {a:Act} {w:World} (hi:ops[i]?=some oi) (hs:Region.noSelect ops=true) (hf:Region.free md ops listed i=true) (hr:(Region.ready md ops listed).contains i=true) (hQ:∀ c a w,Q (.panic c) (a.put oi.dst v) w→Q (.panic c) a w) (hy:YieldsIf P ops S oi v a) (hS:S w) (h:wpAnyH P md ops Q S fuel (listed.setIfInBounds i true) (a.put oi.dst v) w):wpAnyH P md ops Q S (fuel+1) listed a w:=wpAnyH_take hi hs hf hr hQ hy hS h
theorem aA {α:Type} (l:List α) (i:Nat) (a:α):l.toArray.setIfInBounds i a=(l.set i a).toArray:=List.setIfInBounds_toArray ..
theorem aB {α:Type} (x:α) (l:List α) (a:α):(x :: l).set 0 a=a :: l:=rfl
theorem aC {α:Type} (x:α) (l:List α) (n:Nat) (a:α):(x :: l).set (n+1) a=x :: l.set n a:=rfl
theorem aD {α:Type} (l:List α) (i:Nat) (h:i<l.toArray.size):l.toArray[i]=l[i]'(by simpa using h):=List.getElem_toArray ..
theorem aE {α:Type} (a:α) (l:List α) (h:0<(a :: l).length):(a :: l)[0]=a:=rfl
theorem aF {α:Type} (a:α) (l:List α) (i:Nat) (h:i+1<(a :: l).length):(a :: l)[i+1]=l[i]'(Nat.lt_of_succ_lt_succ h):=rfl
theorem wU {P:Program} {md:Region.Mode} {ops:Array Oper} {Q:Exit→Act→World→Prop} {S:World→Prop} (i:Nat) {oi:Oper} (v:Value) {fuel:Nat} {listed:Array Bool} {a:Act} {w:World} (hi:ops[i]?=some oi) (hy:YieldsIf P ops S oi v a) (hS:S w) (h:wpAnyH P md ops Q S fuel (listed.setIfInBounds i true) (a.put oi.dst v) w) (hk:(Region.noSelect ops&&(Region.free md ops listed i&&(Region.ready md ops listed).contains i))=true:=by kernel_rfl) (hQ:∀c a w,Q (.panic c) (a.put oi.dst v) w→Q (.panic c) a w:=by exact fun _ _ _ h=>h):wpAnyH P md ops Q S (fuel + 1) listed a w:= by
 simp only[Bool.and_eq_true] at hk
 exact wpAnyH_take hi hk.1 hk.2.1 hk.2.2 hQ hy hS h
theorem wV {P:Program} {md:Region.Mode} {ops:Array Oper} {Q:Exit→Act→World→Prop} {S:World→Prop} (i:Nat) {oi:Oper} (v:Value) {fuel:Nat} {listed:Array Bool} {a:Act} {w:World} (hy:∀w,S w→(execOp a.eval oi).run P w=.ok (.value v) w) (hS:S w) (h:wpAnyH P md ops Q S fuel (listed.setIfInBounds i true) (a.put oi.dst v) w) (hi:ops[i]?=some oi:=by rfl) (hk:(Region.noSelect ops&&(Region.free md ops listed i&&((Region.ready md ops listed).contains i&&Region.wanted oi (yielded ops a.tmps))))=true:=by kernel_rfl) (hQ:∀c a w,Q (.panic c) (a.put oi.dst v) w→Q (.panic c) a w:=by exact fun _ _ _ h=>h):wpAnyH P md ops Q S (fuel + 1) listed a w:= by
 simp only[Bool.and_eq_true] at hk
 exact wpAnyH_take hi hk.1 hk.2.1 hk.2.2.1 hQ (Or.inl ⟨hk.2.2.2,hy⟩) hS h
theorem wW {P:Program} {md:Region.Mode} {ops:Array Oper} {Q:Exit→Act→World→Prop} {S:World→Prop} (i:Nat) {oi:Oper} {fuel:Nat} {listed:Array Bool} {a:Act} {w:World} (hS:S w) (h:wpAnyH P md ops Q S fuel (listed.setIfInBounds i true) (a.put oi.dst undef) w) (hi:ops[i]?=some oi:=by rfl) (hk:(Region.noSelect ops&&(Region.free md ops listed i&&((Region.ready md ops listed).contains i&&!Region.wanted oi (yielded ops a.tmps))))=true:=by kernel_rfl) (hQ:∀c a w,Q (.panic c) (a.put oi.dst undef) w→Q (.panic c) a w:=by exact fun _ _ _ h=>h):wpAnyH P md ops Q S (fuel + 1) listed a w:= by
 simp only[Bool.and_eq_true,Bool.not_eq_true'] at hk
 exact wpAnyH_take hi hk.1 hk.2.1 hk.2.2.1 hQ (Or.inr ⟨hk.2.2.2,rfl⟩) hS h
abbrev zX:List Value:=[I J 0,I J 0,I J 0,I J 0,sL none 0 0,sL none 0 0,sL none 0 0,sL none 0 0,I J 0,I J 0]
theorem aZ:(∀ (a:Act) (d:Tmp) (v:Value),a.put (some d) v={ a with tmps:=a.tmps.setIfInBounds d v })∧(∀ (a:Act) (v:Value),a.put none v=a)∧(∀ (α:Type) (l:List α) (i:Nat) (a:α),l.toArray.setIfInBounds i a=(l.set i a).toArray)∧(∀ (α:Type) (x:α) (l:List α) (a:α),(x :: l).set 0 a=a :: l)∧(∀ (α:Type) (x:α) (l:List α) (n:Nat) (a:α),(x :: l).set (n+1) a=x :: l.set n a)∧(∀ (α:Type) (l:List α) (i:Nat) (h:i<l.toArray.size),l.toArray[i]=l[i]'(by simpa using h))∧(∀ (α:Type) (a:α) (l:List α) (h:0<(a :: l).length),(a :: l)[0]=a)∧∀ (α:Type) (a:α) (l:List α) (i:Nat) (h:i+1<(a :: l).length),(a :: l)[i+1]=l[i]'(Nat.lt_of_succ_lt_succ h):=⟨fun _ _ _=>rfl,fun _ _=>rfl,fun _=>aA,fun _=>aB,fun _=>aC,fun _=>aD,fun _=>aE,fun _=>aF⟩
theorem bN {P:Program} {fn:Func} {R:Ending→World→Prop} {a:Act} {w:World} (hR:R (.returned (.tuple #[])) w) (hr:fn.results=#[]:=by rfl) (hd:a.defers=[]:=by rfl):bodyPost P fn R .ret a w:=bodyPost_ret (results_none hr _ _ _) hd hR
abbrev zY:List Value:=[.int .i64 0,.int .i64 0,.int .i64 0,.bool false,.bool false,.bool false,.bool false,.bool false,.int .i64 0,.int .i64 0,.int .i64 0,.int .i64 0,.int .i64 0,.int .i64 0,.int .i64 0,.slice none 0 0,.slice none 0 0,.slice none 0 0,.slice none 0 0,.int .i64 0,.int .i64 0]
theorem nR (n:Nat):n≤n:=Nat.le_refl n
theorem bW (n:Nat) (w:World):Below n w w:=Below.refl n w
theorem nL {a b c:Nat} (h:a<b) (h2:b≤c):a<c:=Nat.lt_of_lt_of_le h h2
theorem nZ (n:Nat):0≤n:=Nat.zero_le n
theorem nT {a b c:Nat} (h:a≤b) (h2:b≤c):a≤c:=Nat.le_trans h h2
theorem nN (n:Nat):¬n<0:=Nat.not_lt_zero n
theorem nA (n k:Nat):n≤n+k:=Nat.le_add_right n k
variable {w w':World} {g n cap m:Nat} {l:List Nat}
structure iB (w:World) (a:Option Addr) (n cap:Nat) (l:List Nat):Prop where
 len:n=l.length
 cap:n≤cap
 small:∀ x ∈ l,x<256
 cells:l≠[]→∃ g off,a=some ⟨g,off,none⟩∧∀ j (h:j<l.length),w.cell? ⟨g,off+j,none⟩=some (I .u8 (l[j]:Int))
theorem iB.below {a:Option Addr} (h:iB w a n cap l) (hb:Below w.heap.size w w'):iB w' a n cap l:=by
 refine⟨h.len,h.cap,h.small,fun hl=>?_⟩
 obtain⟨g,off,ha,hc⟩:=h.cells hl
 refine⟨g,off,ha,fun j hj=>?_⟩
 have h1:=hc j hj
 rw[hb.cell (World.block_lt_of_cell? w _ h1)]
 exact h1
def rowF (w:World) (g m:Nat):Prop:=∀ t,t<m→(∃ v,w.cell? ⟨g,t,none⟩=some v)∧w.frozen? ⟨g,t,none⟩=false
theorem rowF.up {W:World} (h:rowF w g m) (he:W.heap[g]?=w.heap[g]?):rowF W g m:=fun t ht=>by
 have:=h t ht
 simp only[World.cell?,World.frozen?,he] at this ⊢
 exact this
theorem rowF.setOther (h:rowF w g m) (b j:Nat) (v:Value) (hb:b≠g):rowF (w.setCell ⟨b,j,none⟩ v) g m:=h.up (heap_setCell_other w ⟨b,j,none⟩ g v (fun e=>hb e.symm))
abbrev frV (e:Bool) (i:Nat) (r:Bool) (d:Int) (a:Option Addr) (n cap:Nat):Value:=aG #[bO e,I .u32 (i:Int),bO r,I J d,sL a n cap]
abbrev frC (e:Bool) (i:Nat) (r:Bool) (d:Int) (a:Option Addr) (n cap:Nat) (T:TypeId):Obj:=.cells #[bO e,I .u32 (i:Int),bO r,I J d,sL a n cap] T
theorem iB.other (h:iB w (some ⟨g,0,none⟩) n cap l) (hk:w'.heap[g]?=w.heap[g]?):iB w' (some ⟨g,0,none⟩) n cap l:=by
 refine⟨h.len,h.cap,h.small,fun hl=>?_⟩
 obtain⟨g',off,ha,hc⟩:=h.cells hl
 cases ha
 refine⟨g,0,rfl,fun t ht=>?_⟩
 have:=hc t ht
 simp only[World.cell?,hk] at this ⊢
 exact this
theorem iB.setOther (h:iB w (some ⟨g,0,none⟩) n cap l) (b j:Nat) (v:Value) (hb:b≠g):iB (w.setCell ⟨b,j,none⟩ v) (some ⟨g,0,none⟩) n cap l:=by
 refine⟨h.len,h.cap,h.small,fun hl=>?_⟩
 obtain⟨g',off,ha,hc⟩:=h.cells hl
 refine⟨g',off,ha,fun t ht=>?_⟩
 cases ha
 rw[World.cell?_setCell_other _ _ _ _ (by intro hh;exact hb (congrArg Addr.block hh))]
 exact hc t ht
abbrev flV (e:Bool) (m k:Int):Value:=aG #[bO e,I .u32 m,I .u32 k]
abbrev cfV (a b c d:Int):Value:=aG #[I J a,I J b,I J c,I J d]
abbrev bxV (x y z:Int) (e:Bool) (i:Nat) (r:Bool) (d:Int) (a:Option Addr) (n cap:Nat):Value:=aG #[I J x,I J y,I J z,bO e,I .u32 (i:Int),bO r,I J d,sL a n cap]
variable {w w' W:World} {g o N B:Nat} {p:World→Prop}
structure R3 where
 e:Bool
 m:Int
 k:Int
structure at3 (w:World) (g o:Nat) (b:R3):Prop where
 c0:w.cell? ⟨g,o,none⟩=some (bO b.e)
 c1:w.cell? ⟨g,o+1,none⟩=some (I .u32 b.m)
 c2:w.cell? ⟨g,o+2,none⟩=some (I .u32 b.k)
structure isR3s (w:World) (a:Option Addr) (n cap:Nat) (bs:List R3):Prop where
 len:n=bs.length
 cap:n≤cap
 cells:bs≠[]→∃ g off,a=some ⟨g,off,none⟩∧∀ j (h:j<bs.length),at3 w g (off+j*3) bs[j]
theorem at3.below {b:R3} (h:at3 w g o b) (hb:Below w.heap.size w w'):at3 w' g o b:=by
 have hg:=World.block_lt_of_cell? w _ h.c0
 exact⟨(hb.cell (by exact hg)).trans h.c0,(hb.cell (by exact hg)).trans h.c1,(hb.cell (by exact hg)).trans h.c2⟩
theorem isR3s.below {a:Option Addr} {n cap:Nat} {bs:List R3} (h:isR3s w a n cap bs) (hb:Below w.heap.size w w'):isR3s w' a n cap bs:=by
 refine⟨h.len,h.cap,fun hl=>?_⟩
 obtain⟨g,off,ha,hc⟩:=h.cells hl
 exact⟨g,off,ha,fun j hj=>(hc j hj).below hb⟩
theorem Tryz.info164:(Tp.info? 164).map (fun i=>(i.zero,i.size,i.bytes))=some (some (aG #[bO false,I .u32 0,I .u32 0]),3,12):=by kernel_rfl
structure rowZ (w:World) (g N:Nat):Prop where
 cell:∀ t,t<N→∃ v,w.cell? ⟨g,t,none⟩=some v
 free:∀ t,w.frozen? ⟨g,t,none⟩=false
theorem make_Z {ops:Array Oper} {rest:List Oper} {o:Oper} {a:Act} {Q:Exit→Act→World→Prop} (w:World) (T E:TypeId) (Z:Value) (sz by_:Nat) (hi0:(Tp.info? E).map (fun i=>(i.zero,i.size,i.bytes))=some (some Z,sz,by_)) (hu:Tp.underlying T=some (.slice E)) (hby:by_≤1000)
  (hg:o.guard=none) (l c:Operand) (hop:o.op=Op.makeSlice T l c) (C:Int) (n:Nat) (hl:a.eval l = I J C) (hc:a.eval c = I J C) (hC:C=(n:Int)) (hn:n≤100000000)
  (hK:∀ w',rowZ w' w.heap.size (n*sz)→w.grownBy w' none→w.heap.size<w'.heap.size→wpList Tp ops Q rest (a.put o.dst (sL (some ⟨w.heap.size,0,none⟩) n n)) w') :
  wpList Tp ops Q (o :: rest) a w:=by
 obtain⟨i0,hi,hz0,hz1,hz2⟩:=info_parts hi0
 have hmul:by_*n≤1000*n:=Nat.mul_le_mul_right _ hby
 refine wpList_make_full w hg l c T hop w.heap.size E i0 Z sz hu hi hz0 hz1 .i64 .i64 C C n hl hc hC hC (by rw[hz2];omega) (by unfold maxLen;omega) (nR _) ?_
 intro w' ho hgr;refine hK w' ⟨fun t ht=>?_,fun t=>World.ownsRow.frozenAt ho t⟩ hgr (World.ownsRow.lt ho _ rfl).2
 rw[World.ownsRow.cellAt ho t (by omega)]
 have hlen:(madeCells Z.cells (n*sz)).toList.length=n*sz:=ho.1
 exact⟨_,List.getElem?_eq_getElem (by omega)⟩
def setRow (W:World) (g:Nat):Nat→List Value→World
 | _,[]=>W
 | p,v :: vs=>setRow (W.setCell ⟨g,p,none⟩ v) g (p+1) vs
theorem rO (g:Nat):∀ (vs:List Value) (W:World) (p t:Nat),(t<p∨p+vs.length≤t)→(setRow W g p vs).cell? ⟨g,t,none⟩=W.cell? ⟨g,t,none⟩:=by
 intro vs;induction vs with
 | nil=>intro W p t _;rfl
 | cons v vs ih=>
  intro W p t h;simp only[List.length_cons] at h
  show (setRow (W.setCell ⟨g,p,none⟩ v) g (p+1) vs).cell? _=_
  rw[ih _ (p+1) t (by omega),World.cell?_setCell_other _ _ _ _ (by intro e;simp at e;try omega)]
theorem setRow_block (g:Nat) (b:Nat) (hb:b≠g):∀ (vs:List Value) (W:World) (p:Nat),(setRow W g p vs).heap[b]?=W.heap[b]?:=by
 intro vs;induction vs with
 | nil=>intro W p;rfl
 | cons v vs ih=>intro W p;exact (ih _ (p+1)).trans (heap_setCell_other W ⟨g,p,none⟩ b v hb)
theorem setRow_frozen (g:Nat) (q:Addr):∀ (vs:List Value) (W:World) (p:Nat),(setRow W g p vs).frozen? q=W.frozen? q:=by
 intro vs;induction vs with
 | nil=>intro W p;rfl
 | cons v vs ih=>intro W p;rw[setRow,ih,World.frozen?_setCell]
theorem setRow_below (g B:Nat) (hB:B≤g) (w0:World):∀ (vs:List Value) (W:World) (p:Nat),Below B w0 W→Below B w0 (setRow W g p vs):=by
 intro vs;induction vs with
 | nil=>intro W p h;exact h
 | cons v vs ih=>intro W p h;exact ih _ _ (h.setCell (p:=⟨g,p,none⟩) (by simpa using hB) v)
theorem setRow_at (g:Nat):∀ (vs:List Value) (W:World) (p t:Nat) (ht:t<vs.length),(∃ u,W.cell? ⟨g,p+t,none⟩=some u)→(setRow W g p vs).cell? ⟨g,p+t,none⟩=some vs[t]:=by
 intro vs;induction vs with
 | nil=>intro W p t ht;cases ht
 | cons v vs ih=>
  intro W p t ht hu;cases t with
  | zero=>
   obtain⟨u,hu⟩:=hu
   show (setRow (W.setCell ⟨g,p,none⟩ v) g (p+1) vs).cell? ⟨g,p,none⟩=some v
   rw[rO g vs _ (p+1) p (by omega)]
   exact World.cell?_setCell_same _ _ _ hu
  | succ t=>
   have e:p+(t+1)=p+1+t:=by omega
   rw[e] at hu ⊢
   refine ih _ (p+1) t (by simpa using ht) ?_
   rw[World.cell?_setCell_other _ _ _ _ (by intro e2;simp at e2;try omega)]
   exact hu
theorem setRow_size (g:Nat):∀ (vs:List Value) (W:World) (p:Nat),(setRow W g p vs).heap.size=W.heap.size:=by
 intro vs;induction vs with
 | nil=>intro W p;rfl
 | cons v vs ih=>intro W p;rw[setRow,ih];simp
theorem rowZ.put (h:rowZ w g N) (vs:List Value) (p:Nat) (_hp:p+vs.length≤N):rowZ (setRow w g p vs) g N:=by
 refine⟨fun t ht=>?_,fun t=>by rw[setRow_frozen];exact h.free t⟩
 by_cases h1:t<p∨p+vs.length≤t
 ·rw[rO g vs w p t h1];exact h.cell t ht
 ·have e:t=p+(t-p):=by omega
  have:=setRow_at g vs w p (t-p) (by omega) (by rw[← e];exact h.cell t ht)
  rw[← e] at this
  exact⟨_,this⟩
theorem rowZ.below (h:rowZ w g N) (hb:Below w.heap.size w w') (hg:g<w.heap.size):rowZ w' g N:=
 ⟨fun t ht=>by obtain⟨v,hv⟩:=h.cell t ht;exact⟨v,(hb.cell (by exact hg)).trans hv⟩,fun t=>(hb.frozen (by exact hg)).trans (h.free t)⟩
theorem at3.keep {b:R3} (h:at3 w g o b) (vs:List Value) (p:Nat) (hp:o+3≤p∨p+vs.length≤o):at3 (setRow w g p vs) g o b:=
 ⟨(rO g vs w p o (by omega)).trans h.c0,(rO g vs w p (o+1) (by omega)).trans h.c1,(rO g vs w p (o+2) (by omega)).trans h.c2⟩
theorem at3.new (h:rowZ w g N) (p:Nat) (hp:p+3≤N) (b:R3):at3 (setRow w g p [bO b.e,I .u32 b.m,I .u32 b.k]) g p b:=
 ⟨setRow_at g _ w p 0 (by simp) (h.cell p (by omega)),setRow_at g _ w p 1 (by simp) (h.cell (p+1) (by omega)),setRow_at g _ w p 2 (by simp) (h.cell (p+2) (by omega))⟩
def St (B:Nat) (w:World) (p:World→Prop):Prop:=∀ W,(∀ k,B≤k→k<w.heap.size→W.heap[k]?=w.heap[k]?)→p W
theorem St.now (h:St B w p):p w:=h w fun _ _ _=>rfl
theorem St.below (h:St B w p) (hb:Below w.heap.size w w'):St B w' p:=fun W hW=>h W fun k h1 h2=>(hW k h1 (nL h2 hb.size)).trans (hb.block k h2)
theorem St.set (h:St B w p) (b j:Nat) (hb:b<B) (v:Value):St B (w.setCell ⟨b,j,none⟩ v) p:=fun W hW=>h W fun k h1 h2=>(hW k h1 (by simpa using h2)).trans (heap_setCell_other w ⟨b,j,none⟩ k v (by show k≠b;omega))
theorem St.mono {B':Nat} (h:St B w p) (hB:B'≤B):St B' w p:=fun W hW=>h W fun k h1 h2=>hW k (by omega) h2
theorem cU {v:Value} (h:w.cell? ⟨g,o,none⟩=some v) (he:W.heap[g]?=w.heap[g]?):W.cell? ⟨g,o,none⟩=some v:=by
 simp only[World.cell?,he] at h ⊢
 exact h
theorem at3.up {b:R3} (h:at3 w g o b) (he:W.heap[g]?=w.heap[g]?):at3 W g o b:=⟨cU h.c0 he,cU h.c1 he,cU h.c2 he⟩
theorem rowZ.F (h:rowZ w g N):rowF w g N:=fun t ht=>⟨h.cell t ht,h.free t⟩
variable {w w' W:World} {g o m c gd n cap M:Nat} {ao a:Option Addr}
structure R5 where
 e:Bool
 i:Nat
 r:Bool
 d:Int
 l:List Nat
structure at5 (w:World) (g o:Nat) (b:R5) (ao:Option Addr) (m c:Nat):Prop where
 c0:w.cell? ⟨g,o,none⟩=some (bO b.e)
 c1:w.cell? ⟨g,o+1,none⟩=some (I .u32 (b.i:Int))
 c2:w.cell? ⟨g,o+2,none⟩=some (bO b.r)
 c3:w.cell? ⟨g,o+3,none⟩=some (I J b.d)
 cs:w.cell? ⟨g,o+4,none⟩=some (sL ao m c)
 dat:iB w ao m c b.l
structure isR5s (w:World) (a:Option Addr) (n cap:Nat) (bs:List R5):Prop where
 len:n=bs.length
 cap:n≤cap
 cells:bs≠[]→∃ g off,a=some ⟨g,off,none⟩∧∀ j (h:j<bs.length),∃ ao m c,at5 w g (off+j*5) bs[j] ao m c
theorem at5.below {b:R5} (h:at5 w g o b ao m c) (hb:Below w.heap.size w w'):at5 w' g o b ao m c:=by
 have hg:=World.block_lt_of_cell? w _ h.c0
 exact⟨(hb.cell (by exact hg)).trans h.c0,(hb.cell (by exact hg)).trans h.c1,(hb.cell (by exact hg)).trans h.c2,(hb.cell (by exact hg)).trans h.c3,(hb.cell (by exact hg)).trans h.cs,h.dat.below hb⟩
theorem isR5s.below {bs:List R5} (h:isR5s w a n cap bs) (hb:Below w.heap.size w w'):isR5s w' a n cap bs:=by
 refine⟨h.len,h.cap,fun hl=>?_⟩
 obtain⟨g,off,ha,hc⟩:=h.cells hl
 exact⟨g,off,ha,fun j hj=>by obtain⟨ao,m,c,hat⟩:=hc j hj;exact⟨ao,m,c,hat.below hb⟩⟩
theorem at5.up {b:R5} (h:at5 w g o b (some ⟨gd,0,none⟩) m c) (he:W.heap[g]?=w.heap[g]?) (hd:W.heap[gd]?=w.heap[gd]?):at5 W g o b (some ⟨gd,0,none⟩) m c:=
 ⟨cU h.c0 he,cU h.c1 he,cU h.c2 he,cU h.c3 he,cU h.cs he,h.dat.other hd⟩
theorem at5.keep {b:R5} (h:at5 w g o b (some ⟨gd,0,none⟩) m c) (hne:gd≠g) (vs:List Value) (p:Nat) (hp:o+5≤p∨p+vs.length≤o):at5 (setRow w g p vs) g o b (some ⟨gd,0,none⟩) m c:=
 ⟨(rO g vs w p (o) (by omega)).trans h.c0,(rO g vs w p (o+1) (by omega)).trans h.c1,(rO g vs w p (o+2) (by omega)).trans h.c2,(rO g vs w p (o+3) (by omega)).trans h.c3,(rO g vs w p (o+4) (by omega)).trans h.cs,h.dat.other (setRow_block g gd hne vs w p)⟩
theorem at5.new (h:rowZ w g M) (p:Nat) (hp:p+5≤M) (b:R5) (gd m:Nat) (hne:gd≠g) (hd:iB w (some ⟨gd,0,none⟩) m m b.l):at5 (setRow w g p [bO b.e,I .u32 (b.i:Int),bO b.r,I J b.d,sL (some ⟨gd,0,none⟩) m m]) g p b (some ⟨gd,0,none⟩) m m:=
 ⟨setRow_at g _ w p 0 (by simp) (h.cell (p+0) (by omega)),setRow_at g _ w p 1 (by simp) (h.cell (p+1) (by omega)),setRow_at g _ w p 2 (by simp) (h.cell (p+2) (by omega)),setRow_at g _ w p 3 (by simp) (h.cell (p+3) (by omega)),setRow_at g _ w p 4 (by simp) (h.cell (p+4) (by omega)),hd.other (setRow_block g gd hne _ w p)⟩
structure R8 where
 x:Int
 y:Int
 z:Int
 e:Bool
 i:Nat
 r:Bool
 d:Int
 l:List Nat
structure at8 (w:World) (g o:Nat) (b:R8) (ao:Option Addr) (m c:Nat):Prop where
 c0:w.cell? ⟨g,o,none⟩=some (I J b.x)
 c1:w.cell? ⟨g,o+1,none⟩=some (I J b.y)
 c2:w.cell? ⟨g,o+2,none⟩=some (I J b.z)
 c3:w.cell? ⟨g,o+3,none⟩=some (bO b.e)
 c4:w.cell? ⟨g,o+4,none⟩=some (I .u32 (b.i:Int))
 c5:w.cell? ⟨g,o+5,none⟩=some (bO b.r)
 c6:w.cell? ⟨g,o+6,none⟩=some (I J b.d)
 cs:w.cell? ⟨g,o+7,none⟩=some (sL ao m c)
 dat:iB w ao m c b.l
structure isR8s (w:World) (a:Option Addr) (n cap:Nat) (bs:List R8):Prop where
 len:n=bs.length
 cap:n≤cap
 cells:bs≠[]→∃ g off,a=some ⟨g,off,none⟩∧∀ j (h:j<bs.length),∃ ao m c,at8 w g (off+j*8) bs[j] ao m c
theorem at8.below {b:R8} (h:at8 w g o b ao m c) (hb:Below w.heap.size w w'):at8 w' g o b ao m c:=by
 have hg:=World.block_lt_of_cell? w _ h.c0
 exact⟨(hb.cell (by exact hg)).trans h.c0,(hb.cell (by exact hg)).trans h.c1,(hb.cell (by exact hg)).trans h.c2,(hb.cell (by exact hg)).trans h.c3,(hb.cell (by exact hg)).trans h.c4,(hb.cell (by exact hg)).trans h.c5,(hb.cell (by exact hg)).trans h.c6,(hb.cell (by exact hg)).trans h.cs,h.dat.below hb⟩
theorem isR8s.below {bs:List R8} (h:isR8s w a n cap bs) (hb:Below w.heap.size w w'):isR8s w' a n cap bs:=by
 refine⟨h.len,h.cap,fun hl=>?_⟩
 obtain⟨g,off,ha,hc⟩:=h.cells hl
 exact⟨g,off,ha,fun j hj=>by obtain⟨ao,m,c,hat⟩:=hc j hj;exact⟨ao,m,c,hat.below hb⟩⟩
theorem at8.up {b:R8} (h:at8 w g o b (some ⟨gd,0,none⟩) m c) (he:W.heap[g]?=w.heap[g]?) (hd:W.heap[gd]?=w.heap[gd]?):at8 W g o b (some ⟨gd,0,none⟩) m c:=
 ⟨cU h.c0 he,cU h.c1 he,cU h.c2 he,cU h.c3 he,cU h.c4 he,cU h.c5 he,cU h.c6 he,cU h.cs he,h.dat.other hd⟩
theorem at8.keep {b:R8} (h:at8 w g o b (some ⟨gd,0,none⟩) m c) (hne:gd≠g) (vs:List Value) (p:Nat) (hp:o+8≤p∨p+vs.length≤o):at8 (setRow w g p vs) g o b (some ⟨gd,0,none⟩) m c:=
 ⟨(rO g vs w p (o) (by omega)).trans h.c0,(rO g vs w p (o+1) (by omega)).trans h.c1,(rO g vs w p (o+2) (by omega)).trans h.c2,(rO g vs w p (o+3) (by omega)).trans h.c3,(rO g vs w p (o+4) (by omega)).trans h.c4,(rO g vs w p (o+5) (by omega)).trans h.c5,(rO g vs w p (o+6) (by omega)).trans h.c6,(rO g vs w p (o+7) (by omega)).trans h.cs,h.dat.other (setRow_block g gd hne vs w p)⟩
theorem at8.new (h:rowZ w g M) (p:Nat) (hp:p+8≤M) (b:R8) (gd m:Nat) (hne:gd≠g) (hd:iB w (some ⟨gd,0,none⟩) m m b.l):at8 (setRow w g p [I J b.x,I J b.y,I J b.z,bO b.e,I .u32 (b.i:Int),bO b.r,I J b.d,sL (some ⟨gd,0,none⟩) m m]) g p b (some ⟨gd,0,none⟩) m m:=
 ⟨setRow_at g _ w p 0 (by simp) (h.cell (p+0) (by omega)),setRow_at g _ w p 1 (by simp) (h.cell (p+1) (by omega)),setRow_at g _ w p 2 (by simp) (h.cell (p+2) (by omega)),setRow_at g _ w p 3 (by simp) (h.cell (p+3) (by omega)),setRow_at g _ w p 4 (by simp) (h.cell (p+4) (by omega)),setRow_at g _ w p 5 (by simp) (h.cell (p+5) (by omega)),setRow_at g _ w p 6 (by simp) (h.cell (p+6) (by omega)),setRow_at g _ w p 7 (by simp) (h.cell (p+7) (by omega)),hd.other (setRow_block g gd hne _ w p)⟩
structure wr5 (B T:Nat) (W:World) (g n:Nat):Prop where
 row:rowF W g (n*5)
 lo:B≤g
 hi:g<T
 dat:∀ j,j<n→∃ gd m,W.cell? ⟨g,j*5+4,none⟩=some (sL (some ⟨gd,0,none⟩) m m)∧rowF W gd m∧gd≠g∧B≤gd∧gd<T
theorem wr5.mono {B T B' T':Nat} (h:wr5 B T W g n) (hB:B'≤B) (hT:T≤T'):wr5 B' T' W g n:=
 ⟨h.row,by have:=h.lo;omega,by have:=h.hi;omega,fun j hj=>by obtain⟨gd,m,h1,h2,h3,h4,h5⟩:=h.dat j hj;exact⟨gd,m,h1,h2,h3,by omega,by omega⟩⟩
theorem Tryz.info55:(Tp.info? 55).map (fun i=>(i.zero,i.size,i.bytes))=some (some (aG #[bO false,I .u32 0,bO false,I J 0,sL none 0 0]),5,48):=by kernel_rfl
theorem setCells_row (g:Nat):∀ (vs:List Value) (w:World) (p:Nat),w.setCells g p vs=setRow w g p vs:=by
 intro vs;induction vs with
 | nil=>intro w p;rfl
 | cons v vs ih=>intro w p;exact ih _ (p+1)
theorem rowZ.there {w:World} {g N:Nat} (h:rowZ w g N) (p n:Nat) (hp:p+n≤N):w.there g p n:=fun j hj=>by
 obtain⟨v,hv⟩:=h.cell (p+j) (by omega)
 exact⟨by rw[hv];rfl,h.free _⟩
theorem one8 (x y z:Int) (e:Bool) (i:Int) (r:Bool) (d:Int) (a:Option Addr) (n c:Nat):(#[I J x,I J y,I J z,bO e,I .u32 i,bO r,I J d,sL a n c]:Array Value).all (·.oneCell')=true:=
 all_oneCell_toArray (by simp[Value.oneCell'])
structure wr8 (B T:Nat) (W:World) (g n:Nat):Prop where
 row:rowF W g (n*8)
 lo:B≤g
 hi:g<T
 dat:∀ j,j<n→∃ gd m,W.cell? ⟨g,j*8+7,none⟩=some (sL (some ⟨gd,0,none⟩) m m)∧rowF W gd m∧gd≠g∧B≤gd∧gd<T
theorem wr8.mono {B T B' T':Nat} {W:World} {g n:Nat} (h:wr8 B T W g n) (hB:B'≤B) (hT:T≤T'):wr8 B' T' W g n:=
 ⟨h.row,by have:=h.lo;omega,by have:=h.hi;omega,fun j hj=>by obtain⟨gd,m,h1,h2,h3,h4,h5⟩:=h.dat j hj;exact⟨gd,m,h1,h2,h3,by omega,by omega⟩⟩
theorem sz95:(Tp.info? 166).map (·.size)=some 8:=by kernel_rfl
theorem sz129:(Tp.info? 67).map (·.size)=some 8:=by kernel_rfl
theorem Tryz.info166:(Tp.info? 166).map (fun i=>(i.zero,i.size,i.bytes))=some (some (aG #[I J 0,I J 0,I J 0,bO false,I .u32 0,bO false,I J 0,sL none 0 0]),8,72):=by kernel_rfl
theorem Tryz.info67:(Tp.info? 67).map (fun i=>(i.zero,i.size,i.bytes))=some (some (aG #[I J 0,I J 0,I J 0,bO false,I .u32 0,bO false,I J 0,sL none 0 0]),8,72):=by kernel_rfl
theorem lq166 {ops:Array Oper} {rest:List Oper} {op:Oper} {a:Act} {w:World} {Q:Exit→Act→World→Prop} {b o:Nat} {x:Operand} {cs:List Value} (hc:w.rangeAt b o cs) (h:wpList Tryz.prog ops Q rest (a.put op.dst (.agg cs.toArray)) w) (hgd:op.guard=none:=by rfl) (ho:op.op = .load 166 x:=by rfl) (hx:a.eval x = .pointer (some ⟨b,o,none⟩):=by rfl) (hi:(Tryz.prog.info? 166).map (·.size)=some cs.length:=by exact sz95):wpList Tryz.prog ops Q (op :: rest) a w:=wpList_load_mid hgd 166 x ho b o hx cs _ hc Tryz.underlying166 rfl hi h
theorem lq67 {ops:Array Oper} {rest:List Oper} {op:Oper} {a:Act} {w:World} {Q:Exit→Act→World→Prop} {b o:Nat} {x:Operand} {cs:List Value} (hc:w.rangeAt b o cs) (h:wpList Tryz.prog ops Q rest (a.put op.dst (.agg cs.toArray)) w) (hgd:op.guard=none:=by rfl) (ho:op.op = .load 67 x:=by rfl) (hx:a.eval x = .pointer (some ⟨b,o,none⟩):=by rfl) (hi:(Tryz.prog.info? 67).map (·.size)=some cs.length:=by exact sz129):wpList Tryz.prog ops Q (op :: rest) a w:=wpList_load_mid hgd 67 x ho b o hx cs _ hc Tryz.underlying67 rfl hi h
structure Ho where
 c0:Int
 c1:Int
 c2:Int
 c3:Int
 fs:List R3
 bx:List R8
 ff:List R5
 qu:List R8
 lo:Int
 st:Int
structure Sl where
 a1:Option Addr
 n1:Nat
 k1:Nat
 a2:Option Addr
 n2:Nat
 k2:Nat
 a3:Option Addr
 n3:Nat
 k3:Nat
 a4:Option Addr
 n4:Nat
 k4:Nat
structure isHo (w:World) (H:Ho) (s:Sl):Prop where
 fs:isR3s w s.a1 s.n1 s.k1 H.fs
 bx:isR8s w s.a2 s.n2 s.k2 H.bx
 ff:isR5s w s.a3 s.n3 s.k3 H.ff
 qu:isR8s w s.a4 s.n4 s.k4 H.qu
theorem isHo.below {w w':World} {H:Ho} {s:Sl} (h:isHo w H s) (hb:Below w.heap.size w w'):isHo w' H s:=⟨h.fs.below hb,h.bx.below hb,h.ff.below hb,h.qu.below hb⟩
structure Ho.le (H:Ho) (m:Nat):Prop where
 fs:H.fs.length≤m
 bx:H.bx.length≤m
 ff:H.ff.length≤m
 qu:H.qu.length≤m
 bd:∀ j (h:j<H.bx.length),H.bx[j].l.length≤m
 fd:∀ j (h:j<H.ff.length),H.ff[j].l.length≤m
 qd:∀ j (h:j<H.qu.length),H.qu[j].l.length≤m
abbrev hoV (H:Ho) (s:Sl):Value:=aG #[I J H.c0,I J H.c1,I J H.c2,I J H.c3,sL s.a1 s.n1 s.k1,sL s.a2 s.n2 s.k2,sL s.a3 s.n3 s.k3,sL s.a4 s.n4 s.k4,I J H.lo,I J H.st]
structure wrHo (B T:Nat) (W:World) (s:Sl):Prop where
 e:∃ g1 g2 g3 g4,s=⟨some ⟨g1,0,none⟩,s.n1,s.n1,some ⟨g2,0,none⟩,s.n2,s.n2,some ⟨g3,0,none⟩,s.n3,s.n3,some ⟨g4,0,none⟩,s.n4,s.n4⟩∧rowF W g1 (s.n1*3)∧(B≤g1∧g1<T)∧wr8 B T W g2 s.n2∧wr5 B T W g3 s.n3∧wr8 B T W g4 s.n4
set_option linter.unusedVariables false
variable {x N:Nat} {w:World}
theorem rowF.setCell (h:rowF w x N) (p:Addr) (v:Value):rowF (w.setCell p v) x N:=fun t ht=>by
 obtain⟨⟨u,hu⟩,hf⟩:=h t ht
 refine⟨?_,by rw[World.frozen?_setCell];exact hf⟩
 by_cases e:(⟨x,t,none⟩ : Addr)=p
 ·subst e;exact⟨v,World.cell?_setCell_same _ _ _ hu⟩
 ·exact⟨u,by rw[World.cell?_setCell_other _ _ _ _ (fun hh=>e hh.symm)];exact hu⟩
theorem rowF.setRow (g:Nat):∀ (vs:List Value) (w:World) (p:Nat),rowF w x N→rowF (setRow w g p vs) x N:=by
 intro vs;induction vs with
 | nil=>intro w p h;exact h
 | cons v vs ih=>intro w p h;exact ih _ (p+1) (h.setCell _ v)
theorem rowF.le {M:Nat} (h:rowF w x N) (hM:M≤N):rowF w x M:=fun t ht=>h t (by omega)
def mkB (W:World) (b m C:Nat):Prop:=∀ t,t<m→W.cell? ⟨b,t,none⟩=some (I .u8 (((C+t) % 256:Nat):Int))
variable {W W':World} {g o C n:Nat}
abbrev Hd:=Option Addr × Nat × Nat
def hd (W:World) (g:Nat) (h:Hd):Prop:=h.2.1≤1048576∧h.2.1≤h.2.2∧((h.1=none∧h.2.1=0)∨∃ b,h.1=some ⟨b,0,none⟩∧b≠g∧rowF W b h.2.1)
theorem hd.up {h:Hd} (H:hd W g h) (hr:∀ x N,rowF W x N→rowF W' x N):hd W' g h:=by
 obtain⟨h1,h2,h3⟩:=H
 refine⟨h1,h2,?_⟩
 rcases h3 with h3|⟨b,e,hn,hf⟩
 ·exact Or.inl h3
 ·exact Or.inr ⟨b,e,hn,hr _ _ hf⟩
def dst (hs:Nat→Hd) (n:Nat):Prop:=∀ i j,i<j→j<n→∀ b,(hs i).1=some ⟨b,0,none⟩→(hs j).1≠some ⟨b,0,none⟩
structure sh8 (W:World) (g n:Nat) (hs:Nat→Hd):Prop where
 row:rowF W g (n*8)
 dat:∀ j,j<n→W.cell? ⟨g,j*8+7,none⟩=some (sL (hs j).1 (hs j).2.1 (hs j).2.2)∧hd W g (hs j)
def cn8 (c:Nat) (hs:Nat→Hd):Nat→Nat
 | 0=>c
 | j+1=>cn8 c hs j+7+(hs j).2.1
theorem cn8_le (c n:Nat) (hs:Nat→Hd) (h:∀ j,j<n→(hs j).2.1≤1048576):∀ j,j≤n→cn8 c hs j≤c+j*1048583:=by
 intro j;induction j with
 | zero=>intro _;exact nR _
 | succ j ih=>
  intro hj;have h1:=ih (by omega)
  have h2:=h j (by omega)
  simp only[cn8]
  omega
def m8w (C:Nat):List Value:=[Value.int .i64 (C:Int),Value.int .i64 ((C:Int)+1),Value.int .i64 ((C:Int)+1+1),Value.bool ((C:Int) % 3 == 0),Value.int .u32 (((C:Int)+1+1+1+1) % 4294967296),Value.bool (((C:Int)+5) % 3 == 0),Value.int .i64 ((C:Int)+1+1+1+1+1+1)]
structure mk8 (W:World) (g o C:Nat) (h:Hd):Prop where
 row:∀ t (ht:t<7),W.cell? ⟨g,o+t,none⟩=some ((m8w C)[t]'(by simpa[m8w] using ht))
 dat:∀ b,h.1=some ⟨b,0,none⟩→mkB W b h.2.1 (C+7)
theorem mk8.up {h:Hd} (H:mk8 W g o C h) (hg:W'.heap[g]?=W.heap[g]?) (hb:∀ b,h.1=some ⟨b,0,none⟩→W'.heap[b]?=W.heap[b]?):mk8 W' g o C h:=
 ⟨fun t ht=>cU (H.row t ht) hg,fun b e t ht=>cU (H.dat b e t ht) (hb b e)⟩
theorem sh8.up {hs:Nat→Hd} (H:sh8 W g n hs) (hg:W'.heap[g]?=W.heap[g]?) (hr:∀ x N,rowF W x N→rowF W' x N):sh8 W' g n hs:=
 ⟨H.row.up hg,fun j hj=>⟨cU (H.dat j hj).1 hg,(H.dat j hj).2.up hr⟩⟩
structure sh5 (W:World) (g n:Nat) (hs:Nat→Hd):Prop where
 row:rowF W g (n*5)
 dat:∀ j,j<n→W.cell? ⟨g,j*5+4,none⟩=some (sL (hs j).1 (hs j).2.1 (hs j).2.2)∧hd W g (hs j)
def cn5 (c:Nat) (hs:Nat→Hd):Nat→Nat
 | 0=>c
 | j+1=>cn5 c hs j+4+(hs j).2.1
theorem cn5_le (c n:Nat) (hs:Nat→Hd) (h:∀ j,j<n→(hs j).2.1≤1048576):∀ j,j≤n→cn5 c hs j≤c+j*1048583:=by
 intro j;induction j with
 | zero=>intro _;exact nR _
 | succ j ih=>
  intro hj;have h1:=ih (by omega)
  have h2:=h j (by omega)
  simp only[cn5]
  omega
def m5w (C:Nat):List Value:=[Value.bool ((C:Int) % 3 == 0),Value.int .u32 (((C:Int)+1) % 4294967296),Value.bool (((C:Int)+2) % 3 == 0),Value.int .i64 ((C:Int)+1+1+1)]
structure mk5 (W:World) (g o C:Nat) (h:Hd):Prop where
 row:∀ t (ht:t<4),W.cell? ⟨g,o+t,none⟩=some ((m5w C)[t]'(by simpa[m5w] using ht))
 dat:∀ b,h.1=some ⟨b,0,none⟩→mkB W b h.2.1 (C+4)
theorem mk5.up {h:Hd} (H:mk5 W g o C h) (hg:W'.heap[g]?=W.heap[g]?) (hb:∀ b,h.1=some ⟨b,0,none⟩→W'.heap[b]?=W.heap[b]?):mk5 W' g o C h:=
 ⟨fun t ht=>cU (H.row t ht) hg,fun b e t ht=>cU (H.dat b e t ht) (hb b e)⟩
theorem sh5.up {hs:Nat→Hd} (H:sh5 W g n hs) (hg:W'.heap[g]?=W.heap[g]?) (hr:∀ x N,rowF W x N→rowF W' x N):sh5 W' g n hs:=
 ⟨H.row.up hg,fun j hj=>⟨cU (H.dat j hj).1 hg,(H.dat j hj).2.up hr⟩⟩
end Go.Proofs.YtkfcfigbgmbaiaaGreat
