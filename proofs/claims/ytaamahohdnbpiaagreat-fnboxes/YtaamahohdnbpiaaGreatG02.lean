import Derived.Shelf.SlicesE.Clone
import Derived.Test.YtaamahohdnbpiaaGreatG01
namespace Go.Proofs.YtaamahohdnbpiaaGreat
open Go.Shelf Go.RowKit
def Tryz.laysE41_ren:Go.Shelf.Ren:=⟨fun | 41=>55 | n=>n,fun | 22=>30 | 23=>85 | n=>n,fun | n=>n⟩
theorem Tryz.laysE41:Go.Proofs.SlLaysE0.n41 Tryz.prog Tryz.laysE41_ren:={
 mixed:=by kernel_rfl
 f41:=⟨Tryz.f55.name,by kernel_rfl,Tryz.func55.trans (congrArg some (by kernel_rfl))⟩
 t4:=Tryz.underlying4
 a4:=Tryz.isAgg4
 z4:=Tryz.sizeOf4
 v4:=Tryz.zeroValue4
 t22:=Tryz.underlying30
 a22:=Tryz.isAgg30
 z22:=Tryz.sizeOf30
 v22:=Tryz.zeroValue30 }
def c3 (bs:List R3):List Value:=bs.flatMap fun b=>[.bool b.e,.int .u32 b.m,.int .u32 b.k]
theorem c3_len (bs:List R3):(c3 bs).length=bs.length*3:=by
 induction bs with
 | nil=>rfl
 | cons b bs ih=>simp only[c3,List.flatMap_cons,List.length_append,List.length_cons,List.length_nil] at ih ⊢;omega
theorem c3_at (bs:List R3):∀ j (h:j<bs.length),(c3 bs)[j*3]?=some (.bool bs[j].e)∧(c3 bs)[j*3+1]?=some (.int .u32 bs[j].m)∧(c3 bs)[j*3+2]?=some (.int .u32 bs[j].k):=by
 induction bs with
 | nil=>intro j h;exact absurd h (Nat.not_lt_zero _)
 | cons b bs ih=>
  intro j h;cases j with
  | zero=>exact⟨rfl,rfl,rfl⟩
  | succ j=>
   have:=ih j (by simpa using h)
   have e:∀ t,(c3 (b :: bs))[(t+3)]?=(c3 bs)[t]?:=fun t=>by simp[c3,List.flatMap_cons]
   have e0:(j+1)*3=j*3+3:=by omega
   have e1:(j+1)*3+1=(j*3+1)+3:=by omega
   have e2:(j+1)*3+2=(j*3+2)+3:=by omega
   rw[e0,e,show j*3+3+1=(j*3+1)+3 by omega,e,show j*3+3+2=(j*3+2)+3 by omega,e]
   exact this
theorem c3_cell {w:World} {g n cap:Nat} {bs:List R3} (h:isR3s w (some ⟨g,0,none⟩) n cap bs) (t:Nat) (u:Value) (hu:(c3 bs)[t]?=some u):w.cell? ⟨g,0+t,none⟩=some u:=by
 have ht:t<bs.length*3:=by
  have:=(List.getElem?_eq_some_iff.mp hu).1
  rwa [c3_len] at this
 have hj:t / 3<bs.length:=by omega
 have hne:bs≠[]:=by intro e;subst e;simp at hj
 obtain⟨g',off,ha,hc⟩:=h.cells hne
 cases ha
 have x:=hc (t / 3) hj
 obtain⟨y0,y1,y2⟩:=c3_at bs (t / 3) hj
 have hr:t % 3=0∨t % 3=1∨t % 3=2:=by omega
 rcases hr with r|r|r
 ·have e:t=t / 3*3:=by omega
  rw[← e] at y0
  have:=x.c0
  rw[← e] at this
  rw[this,← y0,hu]
 ·have e:t=t / 3*3+1:=by omega
  rw[← e] at y1
  have:=x.c1
  rw[Nat.add_assoc,← e] at this
  rw[this,← y1,hu]
 ·have e:t=t / 3*3+2:=by omega
  rw[← e] at y2
  have:=x.c2
  rw[Nat.add_assoc,← e] at this
  rw[this,← y2,hu]
theorem c3_one (bs:List R3):∀ u ∈ c3 bs,u.oneCell'=true:=by
 intro u hu;simp only[c3,List.mem_flatMap,List.mem_cons,List.not_mem_nil,or_false] at hu
 obtain⟨b,_,rfl | rfl | rfl⟩:=hu <;> rfl
theorem clone_any (w:World) (g n cap:Nat) (bs:List R3) (h:isR3s w (some ⟨g,0,none⟩) n cap bs) (hn:n≤1048576) :
  Calls Tryz.prog 55 #[.slice (some ⟨g,0,none⟩) n cap] w fun e w'=>∃ v',e = .returned v'∧w'.ownsRow w.heap.size 85 3 v' n (c3 bs)∧v'≠.slice none 0 0∧Below w.heap.size w w':=by
 obtain⟨i0,hi,hz0,hz1,hz2⟩:=info_parts Tryz.info85
 exact AnyE.slices_Clone Tryz.laysE41 i0 _ 3 12 hi hz0 hz1 hz2 rfl (by omega) Tryz.sizeOf85 g 0 n cap (c3 bs) w (by rw[c3_len,h.len]) (by unfold maxLen;omega) (by omega) (fun j u hj=>c3_cell h j u hj) (c3_one bs)
theorem c3_owns {w:World} {B n:Nat} {v:Value} {bs:List R3} (hn:n=bs.length) (ho:w.ownsRow B 85 3 v n (c3 bs)) (hv:v≠.slice none 0 0) :
  ∃ g cap,v = .slice (some ⟨g,0,none⟩) n cap∧B≤g∧g<w.heap.size∧n≤cap∧rowZ w g (n*3)∧St B w (fun W=>isR3s W (some ⟨g,0,none⟩) n cap bs):=by
 rcases ho.2 with⟨e,_⟩|⟨g,cap,cur,hv',hb,hg,hcp,hmx,hsz,htk⟩
 ·exact absurd e hv
 ·have hlt:g<w.heap.size:=by
   rcases Nat.lt_or_ge g w.heap.size with h|h
   ·exact h
   ·rw[Array.getElem?_eq_none h] at hg;cases hg
  have hcur:∀ t,t<n*3→cur[t]?=(c3 bs)[t]?:=by
   intro t ht;rw[← htk,List.getElem?_take_of_lt ht,Array.getElem?_toList]
  have hcell:∀ W:World,W.heap[g]?=w.heap[g]?→∀ t,t<n*3→W.cell? ⟨g,t,none⟩=(c3 bs)[t]?:=by
   intro W hW t ht;have e:W.heap[g]?=some (.cells cur 85 (0,0)):=hW.trans hg
   rw[← hcur t ht]
   simp[World.cell?,e]
  refine⟨g,cap,hv',hb,hlt,hcp,⟨fun t ht=>?_,fun t=>?_⟩,fun W hW=>⟨hn,hcp,fun hne=>⟨g,0,rfl,fun j hj=>?_⟩⟩⟩
  ·rw[hcell w rfl t ht]
   have hl:t<(c3 bs).length:=by rw[c3_len,← hn];exact ht
   exact⟨_,List.getElem?_eq_getElem hl⟩
  ·subst hv';exact World.ownsRow.frozenAt ho t
  ·have e:=hW g hb hlt
   obtain⟨y0,y1,y2⟩:=c3_at bs j hj
   exact⟨(by rw[Nat.zero_add];exact (hcell W e _ (by omega)).trans y0),(by rw[Nat.zero_add];exact (hcell W e _ (by omega)).trans y1),(by rw[Nat.zero_add];exact (hcell W e _ (by omega)).trans y2)⟩
open Go.RowKit
def m8 (C:Int):List Value:=[.int .i64 C,.int .i64 (C+1),.int .i64 (C+1+1),.bool (C % 3 == 0),.int .u32 (C+1+1+1+1),.bool ((C+5) % 3 == 0),.int .i64 (C+1+1+1+1+1+1)]
structure atM (w:World) (g o:Nat) (C:Int):Prop where
 row:∀ t (h:t<7),w.cell? ⟨g,o+t,none⟩=some ((m8 C)[t]'(by simpa[m8] using h))
 dat:w.cell? ⟨g,o+7,none⟩=some (.slice none 0 0)
theorem atM.new {w:World} {g M:Nat} (h:rowZ w g M) (p:Nat) (hp:p+8≤M) (C:Int) (hd:w.cell? ⟨g,p+7,none⟩=some (.slice none 0 0)):atM (setRow w g p (m8 C)) g p C:=
 ⟨fun t ht=>setRow_at g (m8 C) w p t (by simpa[m8] using ht) (h.cell (p+t) (by omega)),(setRow_other g (m8 C) w p (p+7) (by simp[m8])).trans hd⟩
theorem atM.keep {w:World} {g o:Nat} {C:Int} (h:atM w g o C) (vs:List Value) (p:Nat) (hp:o+8≤p∨p+vs.length≤o):atM (setRow w g p vs) g o C:=
 ⟨fun t ht=>(setRow_other g vs w p (o+t) (by omega)).trans (h.row t ht),(setRow_other g vs w p (o+7) (by omega)).trans h.dat⟩
theorem rowZ.up {W w:World} {g N:Nat} (h:rowZ w g N) (he:W.heap[g]?=w.heap[g]?):rowZ W g N:=
 ⟨fun t ht=>by obtain⟨v,hv⟩:=h.cell t ht;exact⟨v,cell_up hv he⟩,fun t=>by have:=h.free t;simp only[World.frozen?,he] at this ⊢;exact this⟩
theorem atM.up {W w:World} {g o:Nat} {C:Int} (h:atM w g o C) (he:W.heap[g]?=w.heap[g]?):atM W g o C:=⟨fun t ht=>cell_up (h.row t ht) he,cell_up h.dat he⟩
theorem cell_same {W w:World} {g:Nat} (he:W.heap[g]?=w.heap[g]?) (o:Nat):W.cell? ⟨g,o,none⟩=w.cell? ⟨g,o,none⟩:=by simp only[World.cell?,he]
def bx0:R8:=⟨0,0,0,false,0,false,0,[]⟩
abbrev bxZ:Value:=.agg #[.int .i64 0,.int .i64 0,.int .i64 0,.bool false,.int .u32 0,.bool false,.int .i64 0,.slice none 0 0]
theorem zero_boxes {w:World} {g n:Nat} (h:∀ t,t<n*8→w.cell? ⟨g,t,none⟩=some bxZ.cells[t % bxZ.cells.size]!) (j:Nat) (hj:j<n):at8 w g (j*8) bx0 none 0 0:=by
 have e:∀ r,r<8→w.cell? ⟨g,j*8+r,none⟩=some bxZ.cells[r]!:=fun r hr=>by
  have:=h (j*8+r) (by omega)
  rw[show bxZ.cells.size=8 from rfl,show (j*8+r) % 8=r by omega] at this
  exact this
 exact⟨e 0 (by omega),e 1 (by omega),e 2 (by omega),e 3 (by omega),e 4 (by omega),e 5 (by omega),e 6 (by omega),e 7 (by omega),⟨rfl,Nat.le_refl _,fun _ hx=>(by cases hx),fun hne=>absurd rfl hne⟩⟩
theorem cloneN {w:World} {g n cap:Nat} {bs:List R3} (hf:isR3s w (some ⟨g,0,none⟩) n cap bs) (hn:n≤1048576) (W:World) (hW:Below w.heap.size w W):Calls Tryz.prog 55 #[.slice (some ⟨g,0,none⟩) n cap] W fun e w'=>∃ g1 k1,e = .returned (.slice (some ⟨g1,0,none⟩) n k1)∧(W.heap.size≤g1∧g1<w'.heap.size∧n≤k1∧rowZ w' g1 (n*3)∧St W.heap.size w' (fun V=>isR3s V (some ⟨g1,0,none⟩) n k1 bs))∧Below W.heap.size W w':=by
 refine (clone_any W g n cap bs (hf.below hW) hn).mono ?_
 rintro o w' ⟨v,rfl,ho,hv,hb⟩;obtain⟨g1,k1,rfl,q1,q2,q3,q4,q5⟩:=c3_owns hf.len ho hv
 exact⟨g1,k1,rfl,⟨q1,q2,q3,q4,q5⟩,hb⟩
end Go.Proofs.YtaamahohdnbpiaaGreat
