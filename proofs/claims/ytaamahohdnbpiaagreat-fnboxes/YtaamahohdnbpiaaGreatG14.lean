import Derived.Test.YtaamahohdnbpiaaGreatG04
import Derived.Test.YtaamahohdnbpiaaGreatJC
namespace Go.Proofs.YtaamahohdnbpiaaGreat
open Go.RowKit
theorem blk.set {w:World} {b:Nat} {l:List Value} {T:TypeId} (h:blk w b l T) (o:Nat) (v:Value):blk (w.setCell ⟨b,o,none⟩ v) b (l.set o v) T:=by
 have:=heap_setCell_same w b o _ _ v h
 simpa[blk] using this
theorem blk.setOther {w:World} {b b':Nat} {l:List Value} {T:TypeId} (h:blk w b l T) (hb:b≠b') (o:Nat) (v:Value):blk (w.setCell ⟨b',o,none⟩ v) b l T:=h.other hb o [v]
abbrev z10:List Value:=[.int .i64 0,.int .i64 0,.int .i64 0,.int .i64 0,.slice none 0 0,.slice none 0 0,.slice none 0 0,.slice none 0 0,.int .i64 0,.int .i64 0]
structure gS (w:World) (hv gv:List Value) (W:World):Prop where
 p:blk W w.heap.size hv 35
 r:blk W (w.heap.size+1) z10 35
 q:blk W (w.heap.size+1+1) gv 35
 b:Below w.heap.size w W
theorem gS.z {w W:World} {hv gv:List Value} (h:gS w hv gv W):w.heap.size+3≤W.heap.size:=h.q.lt
theorem gS.below {w W W':World} {hv gv:List Value} (h:gS w hv gv W) (hb:Below W.heap.size W W'):gS w hv gv W':=⟨h.p.below hb,h.r.below hb,h.q.below hb,h.b.trans (hb.mono h.b.size)⟩
theorem gS.grown {w W W':World} {hv gv:List Value} {g:Nat} (h:gS w hv gv W) (hg:W.grownBy W' (some g)) (h3:w.heap.size+3≤g):gS w hv gv W':=by
 have hz:=h.z
 exact⟨h.p.kept (hg.block _ (by omega) (by intro e;cases e;omega)),h.r.kept (hg.block _ (by omega) (by intro e;cases e;omega)),h.q.kept (hg.block _ (by omega) (by intro e;cases e;omega)),h.b.grown hg (by omega) (by intro k e;cases e;omega)⟩
theorem gS.set {w W:World} {hv gv:List Value} (h:gS w hv gv W) (o:Nat) (v:Value):gS w hv (gv.set o v) (W.setCell ⟨w.heap.size+1+1,o,none⟩ v):=
 ⟨h.p.setOther (by omega) _ _,h.r.setOther (by omega) _ _,h.q.set _ _,h.b.setCell (by show _≤_+_+_;omega) _⟩
structure hS (w:World) (hv:List Value) (W:World):Prop where
 p:blk W w.heap.size hv 35
 b:Below w.heap.size w W
theorem gS.hs {w W:World} {hv gv:List Value} (h:gS w hv gv W):hS w hv W:=⟨h.p,h.b⟩
theorem sz98:(Tryz.prog.info? 85).map (·.size)=some 3:=by kernel_rfl
def rc3:R3→List Value:=fun b=>[.bool b.e,.int .u32 b.m,.int .u32 b.k]
theorem c3_rc (bs:List R3):c3 bs=bs.flatMap rc3:=rfl
theorem c3_snoc (bs:List R3) (k:Nat) (h:k<bs.length):c3 (bs.take k)++rc3 bs[k]=c3 (bs.take (k+1)):=by
 rw[c3_rc,c3_rc,List.take_succ_eq_append_getElem h,List.flatMap_append,List.flatMap_cons,List.flatMap_nil,List.append_nil]
theorem take5 {bs:List R5} {rs:List (R5 × Nat × Nat)} {k:Nat} (h:rs.map (·.1)=bs.take k) (hk:k<bs.length) (p:R5 × Nat × Nat) (hp:p.1=bs[k]):(rs++[p]).map (·.1)=bs.take (k+1):=by
 rw[List.map_append,h,List.take_succ_eq_append_getElem hk,List.map_cons,List.map_nil,hp]
theorem take5_len {bs:List R5} {rs:List (R5 × Nat × Nat)} {k:Nat} (h:rs.map (·.1)=bs.take k) (hk:k≤bs.length):rs.length=k:=by
 have:=congrArg List.length h
 rw[List.length_map,List.length_take] at this
 omega
theorem one5L (e:Bool) (i:Int) (r:Bool) (d:Int) (a:Option Addr) (n c:Nat):∀ u ∈ [Value.bool e,.int .u32 i,.bool r,.int .i64 d,.slice a n c],u.oneCell'=true:=by
 intro u hu;simp only[List.mem_cons,List.not_mem_nil,or_false] at hu
 rcases hu with rfl | rfl | rfl | rfl | rfl <;> rfl
structure Kp (B:Nat) (W W':World):Prop where
 same:∀ b,B≤b→b<W.heap.size→W'.heap[b]?=W.heap[b]?
 size:W.heap.size≤W'.heap.size
theorem Kp.refl (B:Nat) (W:World):Kp B W W:=⟨fun _ _ _=>rfl,Nat.le_refl _⟩
theorem Kp.below {B:Nat} {W W' W'':World} (h:Kp B W W') (hb:Below W'.heap.size W' W''):Kp B W W'':=⟨fun b h1 h2=>(hb.block b (Nat.lt_of_lt_of_le h2 h.size)).trans (h.same b h1 h2),Nat.le_trans h.size hb.size⟩
theorem Kp.grown {B:Nat} {W W' W'':World} {g:Nat} (h:Kp B W W') (hg:W'.grownBy W'' (some g)) (hw:W.heap.size≤g):Kp B W W'':=⟨fun b h1 h2=>(hg.block b (Nat.lt_of_lt_of_le h2 h.size) (by intro e;cases e;omega)).trans (h.same b h1 h2),Nat.le_trans h.size hg.size⟩
theorem Kp.set {B:Nat} {W W':World} (h:Kp B W W') (b o:Nat) (hb:b<B) (v:Value):Kp B W (W'.setCell ⟨b,o,none⟩ v):=⟨fun k h1 h2=>(heap_setCell_other _ _ _ _ (by show k≠b;omega)).trans (h.same k h1 h2),by simpa using h.size⟩
theorem St.kp {B:Nat} {W W':World} {p:World→Prop} (h:St B W p) (hk:Kp B W W'):St B W' p:=fun V hV=>h V fun k h1 h2=>(hV k h1 (Nat.lt_of_lt_of_le h2 hk.size)).trans (hk.same k h1 h2)
theorem range_below {w W:World} {g o:Nat} {l:List Value} (h:w.rangeAt g o l) (hb:Below w.heap.size w W) (hg:g<w.heap.size):W.rangeAt g o l:=fun j v hv=>(hb.cell (by exact hg)).trans (h j v hv)
theorem one3L (e:Bool) (m k:Int):∀ u ∈ [Value.bool e,.int .u32 m,.int .u32 k],u.oneCell'=true:=by
 intro u hu;simp only[List.mem_cons,List.not_mem_nil,or_false] at hu
 rcases hu with rfl | rfl | rfl <;> rfl
set_option linter.unusedVariables false
def f5 (b:R5) (ao:Option Addr) (m c:Nat):List Value:=[.bool b.e,.int .u32 (b.i:Int),.bool b.r,.int .i64 b.d,.slice ao m c]
def f8 (b:R8) (ao:Option Addr) (m c:Nat):List Value:=[.int .i64 b.x,.int .i64 b.y,.int .i64 b.z,.bool b.e,.int .u32 (b.i:Int),.bool b.r,.int .i64 b.d,.slice ao m c]
def ring5 (w0 W:World) (g room first:Nat) (L:List R5):Prop:=∀ i (h:i<L.length),∃ ao m c,W.rangeAt g ((first+i) % room*5) (f5 L[i] ao m c)∧isBytes w0 ao m c L[i].l
def ring8 (w0 W:World) (g room first:Nat) (L:List R8):Prop:=∀ i (h:i<L.length),∃ ao m c,W.rangeAt g ((first+i) % room*8) (f8 L[i] ao m c)∧isBytes w0 ao m c L[i].l
theorem free5_any (W:World) (P:Nat) (a:Option Addr) (n cap:Nat) (first:Int) (count:Nat) (h:blk W P [.slice a n cap,.int .i64 first,.int .i64 (count:Int)] 130) (hc:count≤n) (hn:n≤1048576) :
  Calls Tryz.prog 155 #[.pointer (some ⟨P,0,none⟩)] W fun o w'=>o = .returned (.int .i64 ((n-count:Nat):Int))∧Below W.heap.size W w':=by
 have y0:=h.cell 0 _ rfl
 have y2:=h.cell 2 _ rfl
 clear h;go_enter Tryz.func155,Tryz.ntmps155
 go_wp2
 go_region
 all_goals
  go_wp2
  go_ret;refine⟨ret_int ?_,(Below.refl _ _).drew⟩
  omega
theorem free8_any (W:World) (P:Nat) (a:Option Addr) (n cap:Nat) (first:Int) (count:Nat) (h:blk W P [.slice a n cap,.int .i64 first,.int .i64 (count:Int)] 132) (hc:count≤n) (hn:n≤1048576) :
  Calls Tryz.prog 182 #[.pointer (some ⟨P,0,none⟩)] W fun o w'=>o = .returned (.int .i64 ((n-count:Nat):Int))∧Below W.heap.size W w':=by
 have y0:=h.cell 0 _ rfl
 have y2:=h.cell 2 _ rfl
 clear h;go_enter Tryz.func182,Tryz.ntmps182
 go_wp2
 go_region
 all_goals
  go_wp2
  go_ret;refine⟨ret_int ?_,(Below.refl _ _).drew⟩
  omega
theorem ring5.keep {w0 W W':World} {g room first:Nat} {L:List R5} (h:ring5 w0 W g room first L) (he:W'.heap[g]?=W.heap[g]?):ring5 w0 W' g room first L:=by
 intro i hi;obtain⟨ao,m,c,h1,h2⟩:=h i hi
 exact⟨ao,m,c,fun j v hv=>(cell_same he _).trans (h1 j v hv),h2⟩
theorem ring5.store {w0 W:World} {g room first:Nat} {L:List R5} (h:ring5 w0 W g room first L) (hf:first<room) (hL:L.length<room) (hr:rowZ W g (room*5)) (b:R5) (ao:Option Addr) (m c:Nat) (hb:isBytes w0 ao m c b.l) :
  ring5 w0 (W.setCells g ((first+L.length) % room*5) (f5 b ao m c)) g room first (L++[b]):=by
 have hz:(first+L.length) % room<room:=Nat.mod_lt _ (by omega)
 have hzz:(first+L.length) % room*5+5≤room*5:=by
  have:((first+L.length) % room+1)*5≤room*5:=Nat.mul_le_mul_right _ hz
  omega
 intro i hi;rw[List.length_append,List.length_singleton] at hi
 by_cases e:i=L.length
 ·subst e;have hge:(L++[b])[L.length]'(by simp)=b:=by simp
  rw[hge]
  refine⟨ao,m,c,?_,hb⟩
  intro j v hv;have hj:j<(f5 b ao m c).length:=(List.getElem?_eq_some_iff.1 hv).1
  have hj':j<5:=hj
  rw[setCells_row,setRow_at g _ W _ j hj (hr.cell _ (by omega)),← (List.getElem?_eq_some_iff.1 hv).2]
 ·have hi':i<L.length:=by omega
  have hge:(L++[b])[i]'(by simp;omega)=L[i]:=List.getElem_append_left hi'
  rw[hge]
  obtain⟨ao',m',c',h1,h2⟩:=h i hi'
  refine⟨ao',m',c',?_,h2⟩
  intro j v hv;have hj:j<5:=(List.getElem?_eq_some_iff.1 hv).1
  have hne:(first+i) % room≠(first+L.length) % room:=by
   intro e2;have h3:(first+L.length-(first+i)) % room=0:=Nat.sub_mod_eq_zero_of_mod_eq e2.symm
   rw[show first+L.length-(first+i)=L.length-i by omega,Nat.mod_eq_of_lt (by omega)] at h3
   omega
  rw[setCells_row,setRow_other g _ W _ _ ?_]
  ·exact h1 j v hv
  ·show _∨_+5≤_
   rcases Nat.lt_or_gt_of_ne hne with h|h
   ·left
    have:((first+i) % room+1)*5≤(first+L.length) % room*5:=Nat.mul_le_mul_right _ h
    omega
   ·right
    have:((first+L.length) % room+1)*5≤(first+i) % room*5:=Nat.mul_le_mul_right _ h
    omega
structure items5 (w0 W:World) (P gs:Nat) (a:Option Addr) (n c:Nat) (its:List R5):Prop where
 len:n=its.length
 cap:n≤c
 cells:its≠[]→∃ g off,a=some ⟨g,off,none⟩∧g≠P∧g≠gs∧g<W.heap.size∧∀ j (h:j<its.length),∃ ao m c',W.rangeAt g (off+j*5) (f5 its[j] ao m c')∧isBytes w0 ao m c' its[j].l
structure pt5 (w0 W wr:World) (P gs room first:Nat) (M:List R5) (C:Nat):Prop where
 p:blk wr P [.slice (some ⟨gs,0,none⟩) room room,.int .i64 (first:Int),.int .i64 (C:Int)] 130
 z:rowZ wr gs (room*5)
 r:ring5 w0 wr gs room first M
 k:∀ b,b≠P→b≠gs→b<W.heap.size→wr.heap[b]?=W.heap[b]?
 s:W.heap.size≤wr.heap.size
 o:wr.os=W.os∧wr.tape=W.tape∧wr.output=W.output
theorem pt5.below {w0 W wr wr':World} {P gs room first:Nat} {M:List R5} {C:Nat} (h:pt5 w0 W wr P gs room first M C) (hg:gs<W.heap.size) (hb:Below wr.heap.size wr wr'):pt5 w0 W wr' P gs room first M C:=
 ⟨h.p.below hb,h.z.below hb (Nat.lt_of_lt_of_le hg h.s),h.r.keep (hb.block _ (Nat.lt_of_lt_of_le hg h.s)),fun b h1 h2 h3=>(hb.block _ (Nat.lt_of_lt_of_le h3 h.s)).trans (h.k b h1 h2 h3),Nat.le_trans h.s hb.size,⟨hb.os.trans h.o.1,hb.tape.trans h.o.2.1,hb.output.trans h.o.2.2⟩⟩
theorem pt5.store {w0 W wr:World} {P gs room first:Nat} {M:List R5} {C:Nat} (h:pt5 w0 W wr P gs room first M C) (hg:gs≠P) (hf:first<room) (hL:M.length<room) (b:R5) (ao:Option Addr) (m c:Nat) (hb:isBytes w0 ao m c b.l) :
  pt5 w0 W (wr.setCells gs ((first+M.length) % room*5) (f5 b ao m c)) P gs room first (M++[b]) C:=by
 have hz:(first+M.length) % room<room:=Nat.mod_lt _ (by omega)
 have hzz:(first+M.length) % room*5+5≤room*5:=by
  have:((first+M.length) % room+1)*5≤room*5:=Nat.mul_le_mul_right _ hz
  omega
 refine⟨h.p.other (fun e=>hg e.symm) _ _,by rw[setCells_row];exact h.z.put _ _ hzz,h.r.store hf hL h.z b ao m c hb,fun q h1 h2 h3=>(setCells_other gs q h2 _ _ _).trans (h.k q h1 h2 h3),by rw[setCells_size];exact h.s,?_⟩
 have hbel:=setCells_below (B:=0) (Nat.zero_le gs) ((first+M.length) % room*5) (f5 b ao m c) (Below.refl 0 wr)
 exact⟨hbel.os.trans h.o.1,hbel.tape.trans h.o.2.1,hbel.output.trans h.o.2.2⟩
theorem pt5.count {w0 W wr:World} {P gs room first:Nat} {M:List R5} {C:Nat} (h:pt5 w0 W wr P gs room first M C) (hg:gs≠P) (C':Nat):pt5 w0 W (wr.setCell ⟨P,2,none⟩ (.int .i64 (C':Int))) P gs room first M C':=by
 have e:∀ b,b≠P→(wr.setCell ⟨P,2,none⟩ (.int .i64 (C':Int))).heap[b]?=wr.heap[b]?:=fun b hb=>heap_setCell_other _ _ _ _ (by exact hb)
 have hbel:Below 0 wr (wr.setCell ⟨P,2,none⟩ (.int .i64 (C':Int))):=(Below.refl 0 wr).setCell (Nat.zero_le _) _
 exact⟨h.p.set 2 _,h.z.up (e gs hg),h.r.keep (e gs hg),fun q h1 h2 h3=>(e q h1).trans (h.k q h1 h2 h3),Nat.le_trans h.s hbel.size,⟨hbel.os.trans h.o.1,hbel.tape.trans h.o.2.1,hbel.output.trans h.o.2.2⟩⟩
set_option maxHeartbeats 8000000 in
set_option maxRecDepth 20000 in
theorem put5_any (w0 W:World) (P gs room first:Nat) (L its:List R5) (a:Option Addr) (n c:Nat)
  (hP:blk W P [.slice (some ⟨gs,0,none⟩) room room,.int .i64 (first:Int),.int .i64 (L.length:Int)] 130) (hg:gs≠P) (hrow:rowZ W gs (room*5)) (hgl:gs<W.heap.size) (hring:ring5 w0 W gs room first L)
  (hf:first<room) (hL:L.length≤room) (hroom:room≤1000) (hits:items5 w0 W P gs a n c its) (hn:n≤1048576) (t:Nat) (ht:t=min (room-L.length) n) :
  Calls Tryz.prog 156 #[.pointer (some ⟨P,0,none⟩),.slice a n c] W fun o w'=>o = .returned (.int .i64 (t:Int))∧pt5 w0 W w' P gs room first (L++its.take t) (L.length+t):=by
 have HF:Hid (Calls Tryz.prog 155 #[.pointer (some ⟨P,0,none⟩)] W fun o w'=>o = .returned (.int .i64 ((room-L.length:Nat):Int))∧Below W.heap.size W w'):=free5_any W P _ room room first L.length hP hL (by omega)
 have HP0:Hid (pt5 w0 W W P gs room first L L.length):=⟨hP,hrow,hring,fun _ _ _ _=>rfl,Nat.le_refl _,⟨rfl,rfl,rfl⟩⟩
 have hcp:=hits.cap
 have hmin:min ((room-L.length:Nat):Int) (n:Int)=(t:Int):=by omega
 have hmax:max (t:Int) 0=(t:Int):=by omega
 have htn:t≤n:=by omega
 have HTR:Hid (L.length+t≤room):=by show _≤_;omega
 have HIT:Hid (items5 w0 W P gs a n c its):=hits
 have HR:Hid (room≤1000∧first<room):=⟨hroom,hf⟩
 have HG:Hid (gs≠P∧gs<W.heap.size):=⟨hg,hgl⟩
 clear hP hrow hgl hring hits ht hroom hL hg;generalize hfr:((room-L.length:Nat):Int)=fr at *;clear hfr;have hna:a=none∨∃ ad,a=some ad:=by cases a <;> simp
 have hall:Hid (∀ ad,a=some ad→ad.spot=none∨True):=fun _ _=>Or.inr trivial
 clear hall;by_cases hnil:its=[]
 ·have ht0:t=0:=by have:=HIT.out.len;rw[hnil] at this;simp at this;omega
  have hn0:n=0:=by have:=HIT.out.len;rw[hnil] at this;simpa using this
  subst ht0;subst hn0;subst hnil;clear HIT;have hmin0:min fr 0=0:=by simpa using hmin
  clear hmin hmax;rcases hna with rfl|⟨ad,rfl⟩
  ·go_enter Tryz.func156,Tryz.ntmps156
   go_wp2_with fail;refine HF.out.mono ?_
   rintro o w1 ⟨rfl,hb1⟩;have H1:Hid (pt5 w0 W w1 P gs room first L L.length):=HP0.out.below HG.out.2 hb1
   clear hb1;go_wp2_with fail;go_loopw [17] (fun i wr=>i = .int .i64 0∧wr=w1) (fun _ _=>0)
   case atStart=>exact⟨rfl,rfl⟩
   case round=>
    obtain⟨rfl,rfl⟩:=hrel
    go_wp2
    go_ret;refine⟨rfl,?_⟩
    simpa using H1.out
  ·go_enter Tryz.func156,Tryz.ntmps156
   go_wp2_with fail;refine HF.out.mono ?_
   rintro o w1 ⟨rfl,hb1⟩;have H1:Hid (pt5 w0 W w1 P gs room first L L.length):=HP0.out.below HG.out.2 hb1
   clear hb1;go_wp2_with fail;go_loopw [17] (fun i wr=>i = .int .i64 0∧wr=w1) (fun _ _=>0)
   case atStart=>exact⟨rfl,rfl⟩
   case round=>
    obtain⟨rfl,rfl⟩:=hrel
    go_wp2
    go_ret;refine⟨rfl,?_⟩
    simpa using H1.out
 ·obtain⟨g,off,rfl,hgP,hggs,hglt,hc⟩:=HIT.out.cells hnil
  have HC:Hid (∀ j (h:j<its.length),∃ ao m c',W.rangeAt g (off+j*5) (f5 its[j] ao m c')∧isBytes w0 ao m c' its[j].l):=hc
  have HGG:Hid (g≠P∧g≠gs∧g<W.heap.size):=⟨hgP,hggs,hglt⟩
  clear hc hgP hggs hglt hna;go_enter Tryz.func156,Tryz.ntmps156
  go_wp2_with fail;refine HF.out.mono ?_
  rintro o w1 ⟨rfl,hb1⟩;have H1:Hid (pt5 w0 W w1 P gs room first L L.length):=HP0.out.below HG.out.2 hb1
  clear hb1 HF;go_wp2_with fail;clear hmin hmax;go_loopw [17] (fun i wr=>∃ k:Nat,k≤t∧i = .int .i64 (k:Int)∧pt5 w0 W wr P gs room first (L++its.take k) (L.length+k)) (fun i _=>t-(intOf i).toNat)
  case atStart=>exact⟨0,Nat.zero_le _,rfl,by simpa using H1.out⟩
  case round=>
   obtain⟨k,hk,rfl,hp⟩:=hrel
   have HPT:Hid (pt5 w0 W wr P gs room first (L++its.take k) (L.length+k)):=hp
   clear hp;by_cases hlt:k<t
   ·have hkl:k<its.length:=by have:=HIT.out.len;omega
    obtain⟨ao,m,c',hx1,hx2⟩:=HC.out k hkl
    have hge:wr.heap[g]?=W.heap[g]?:=HPT.out.k g HGG.out.1 HGG.out.2.1 HGG.out.2.2
    have hx1':wr.rangeAt g (off+k*5) (f5 its[k] ao m c'):=fun j v hv=>(cell_same hge _).trans (hx1 j v hv)
    have hML:(L++its.take k).length=L.length+k:=by rw[List.length_append,List.length_take];omega
    have HST:Hid (∀ X C,pt5 w0 W X P gs room first (L++its.take k) C→pt5 w0 W (X.setCells gs ((first+(L.length+k)) % room*5) (f5 its[k] ao m c')) P gs room first (L++its.take (k+1)) C):=by
     intro X C hX;have:=hX.store HG.out.1 HR.out.2 (by rw[hML];have:=HTR.out;omega) its[k] ao m c' hx2
     rw[hML,List.append_assoc,← List.take_succ_eq_append_getElem hkl] at this
     exact this
    obtain⟨b,hb⟩ : ∃ b,its[k]=b:=⟨_,rfl⟩
    rw[hb] at hx1' HST
    obtain⟨e,i,r,d,l⟩:=b
    have HRG:Hid (wr.rangeAt g (off+k*5) [.bool e,.int .u32 (i:Int),.bool r,.int .i64 d,.slice ao m c']):=hx1'
    have HP3:Hid (blk (wr.alloc (.cells #[.bool e,.int .u32 (i:Int),.bool r,.int .i64 d,.slice ao m c'] 25)) P [.slice (some ⟨gs,0,none⟩) room room,.int .i64 (first:Int),.int .i64 ((L.length+k:Nat):Int)] 130∧blk (wr.alloc (.cells #[.bool e,.int .u32 (i:Int),.bool r,.int .i64 d,.slice ao m c'] 25)) wr.heap.size [.bool e,.int .u32 (i:Int),.bool r,.int .i64 d,.slice ao m c'] 25):=⟨HPT.out.p.alloc _,blk.new wr _ 25⟩
    have HT3:Hid (pt5 w0 W (wr.alloc (.cells #[.bool e,.int .u32 (i:Int),.bool r,.int .i64 d,.slice ao m c'] 25)) P gs room first (L++its.take k) (L.length+k)):=HPT.out.below HG.out.2 ((Below.refl _ _).alloc (Nat.le_refl _) _)
    have hmod:Int.tmod ((first:Int)+((L.length+k:Nat):Int)) (room:Int)=(((first+(L.length+k)) % room:Nat):Int):=by
     rw[← Int.natCast_add];exact Int.ofNat_tmod _ _
    have hzr:(first+(L.length+k)) % room<room:=Nat.mod_lt _ (by have:=HR.out;omega)
    have hZN:(first+(L.length+k)) % room*5+5≤room*5:=by
     have:((first+(L.length+k)) % room+1)*5≤room*5:=Nat.mul_le_mul_right _ hzr
     omega
    have hroom0:¬ (room:Int)=0:=by have:=HR.out;omega
    have hC1:L.length+k+1=L.length+(k+1):=by omega
    have HC1:Hid (L.length+k+1=L.length+(k+1)):=hC1
    have hr1:=HR.out.1
    have hf1:=HR.out.2
    have hC2:=HTR.out
    have hCr:L.length+k≤1000:=by omega
    clear hx1 hx2 hge hx1' hML hb hC1 hC2;generalize hCC:L.length+k=C at *;clear hCC;generalize hZZ:(first+C) % room=Z at *;clear hZZ;go_wp2_with (first
     | (refine wpList_load_mid (P:=Tryz.prog) rfl 25 _ rfl g (off+k*5) rfl _ _ HRG.out Tryz.underlying25 rfl sz93 ?_))
    have HZT:Hid (World.there (World.drew (wr.alloc (.cells #[.bool e,.int .u32 (i:Int),.bool r,.int .i64 d,.slice ao m c'] 25))) gs (Z*5) 5):=HT3.out.z.there (Z*5) 5 hZN
    clear hZN HRG;have hPBg:wr.heap.size≠gs:=by have:=HG.out.2;have:=HPT.out.s;omega
    have HPG:Hid (wr.heap.size≠gs):=hPBg
    clear hPBg;generalize hPB:wr.heap.size=PB at *;clear hPB;generalize hW3:wr.alloc (.cells #[.bool e,.int .u32 (i:Int),.bool r,.int .i64 d,.slice ao m c'] 25)=W3 at *;clear hW3 HPT;refine wp_region_held (S:=(fun X=>X.cell? ⟨P,0,none⟩=some (.slice (some ⟨gs,0,none⟩) room room)∧X.cell? ⟨P,1,none⟩=some (.int .i64 (first:Int))∧X.cell? ⟨P,2,none⟩=some (.int .i64 (C:Int))∧X.rangeAt PB 0 [.bool e,.int .u32 (i:Int),.bool r,.int .i64 d,.slice ao m c'])) (by kernel_rfl) ?_
    have hS:(fun X=>X.cell? ⟨P,0,none⟩=some (.slice (some ⟨gs,0,none⟩) room room)∧X.cell? ⟨P,1,none⟩=some (.int .i64 (first:Int))∧X.cell? ⟨P,2,none⟩=some (.int .i64 (C:Int))∧X.rangeAt PB 0 [.bool e,.int .u32 (i:Int),.bool r,.int .i64 d,.slice ao m c']) (World.drew W3):=⟨(HP3.out.1.cell 0 _ rfl),(HP3.out.1.cell 1 _ rfl),(HP3.out.1.cell 2 _ rfl),HP3.out.2.load⟩
    simp only[] at hS
    refine wT (i:=0) (v:=.pointer (some ⟨P,0,none⟩)) rfl (by kernel_rfl) (by kernel_rfl) (by kernel_rfl) (fun _ _ _ h=>h) (Or.inl ⟨by rfl,?_⟩) hS ?_
    ·intro X hSw;clear hS;go_simp
    simp only[Act.put,aA,aB,aC,aD,aE]
    refine wT (i:=1) (v:=.pointer (some ⟨P,0,none⟩)) rfl (by kernel_rfl) (by kernel_rfl) (by kernel_rfl) (fun _ _ _ h=>h) (Or.inl ⟨by rfl,?_⟩) hS ?_
    ·intro X hSw;clear hS;go_simp
    simp only[Act.put,aA,aB,aC,aD,aE,aF];refine wT (i:=2) (v:=.pointer (some ⟨P,0,none⟩)) rfl (by kernel_rfl) (by kernel_rfl) (by kernel_rfl) (fun _ _ _ h=>h) (Or.inl ⟨by rfl,?_⟩) hS ?_
    ·intro X hSw;clear hS;go_simp
    simp only[Act.put,aA,aB,aC,aD,aE,aF];refine wT (i:=3) (v:=.slice (some ⟨gs,0,none⟩) room room) rfl (by kernel_rfl) (by kernel_rfl) (by kernel_rfl) (fun _ _ _ h=>h) (Or.inl ⟨by rfl,?_⟩) hS ?_
    ·intro X hSw;clear hS;go_simp
    simp only[Act.put,aA,aB,aC,aD,aE,aF];refine wT (i:=4) (v:=.pointer (some ⟨P,0,none⟩)) rfl (by kernel_rfl) (by kernel_rfl) (by kernel_rfl) (fun _ _ _ h=>h) (Or.inl ⟨by rfl,?_⟩) hS ?_
    ·intro X hSw;clear hS;go_simp
    simp only[Act.put,aA,aB,aC,aD,aE,aF];refine wT (i:=5) (v:=.pointer (some ⟨P,0,none⟩)) rfl (by kernel_rfl) (by kernel_rfl) (by kernel_rfl) (fun _ _ _ h=>h) (Or.inl ⟨by rfl,?_⟩) hS ?_
    ·intro X hSw;clear hS;go_simp
    simp only[Act.put,aA,aB,aC,aD,aE,aF];refine wT (i:=6) (v:=.pointer (some ⟨P,1,none⟩)) rfl (by kernel_rfl) (by kernel_rfl) (by kernel_rfl) (fun _ _ _ h=>h) (Or.inl ⟨by rfl,?_⟩) hS ?_
    ·intro X hSw;clear hS;go_simp
    simp only[Act.put,aA,aB,aC,aD,aE,aF];refine wT (i:=7) (v:=.int .i64 (first:Int)) rfl (by kernel_rfl) (by kernel_rfl) (by kernel_rfl) (fun _ _ _ h=>h) (Or.inl ⟨by rfl,?_⟩) hS ?_
    ·intro X hSw;clear hS;go_simp
    simp only[Act.put,aA,aB,aC,aD,aE,aF];refine wT (i:=8) (v:=.pointer (some ⟨P,0,none⟩)) rfl (by kernel_rfl) (by kernel_rfl) (by kernel_rfl) (fun _ _ _ h=>h) (Or.inl ⟨by rfl,?_⟩) hS ?_
    ·intro X hSw;clear hS;go_simp
    simp only[Act.put,aA,aB,aC,aD,aE,aF];refine wT (i:=9) (v:=.pointer (some ⟨P,0,none⟩)) rfl (by kernel_rfl) (by kernel_rfl) (by kernel_rfl) (fun _ _ _ h=>h) (Or.inl ⟨by rfl,?_⟩) hS ?_
    ·intro X hSw;clear hS;go_simp
    simp only[Act.put,aA,aB,aC,aD,aE,aF];refine wT (i:=10) (v:=.pointer (some ⟨P,2,none⟩)) rfl (by kernel_rfl) (by kernel_rfl) (by kernel_rfl) (fun _ _ _ h=>h) (Or.inl ⟨by rfl,?_⟩) hS ?_
    ·intro X hSw;clear hS;go_simp
    simp only[Act.put,aA,aB,aC,aD,aE,aF];refine wT (i:=11) (v:=.int .i64 (C:Int)) rfl (by kernel_rfl) (by kernel_rfl) (by kernel_rfl) (fun _ _ _ h=>h) (Or.inl ⟨by rfl,?_⟩) hS ?_
    ·intro X hSw;clear hS;go_simp
    simp only[Act.put,aA,aB,aC,aD,aE,aF];refine wT (i:=12) (v:=.int .i64 ((first:Int)+(C:Int))) rfl (by kernel_rfl) (by kernel_rfl) (by kernel_rfl) (fun _ _ _ h=>h) (Or.inl ⟨by rfl,?_⟩) hS ?_
    ·intro X hSw;clear hS;go_simp;rw[IntKind.wrap_i64];omega
    simp only[Act.put,aA,aB,aC,aD,aE,aF];refine wT (i:=13) (v:=.pointer (some ⟨P,0,none⟩)) rfl (by kernel_rfl) (by kernel_rfl) (by kernel_rfl) (fun _ _ _ h=>h) (Or.inl ⟨by rfl,?_⟩) hS ?_
    ·intro X hSw;clear hS;go_simp
    simp only[Act.put,aA,aB,aC,aD,aE,aF];refine wT (i:=14) (v:=.pointer (some ⟨P,0,none⟩)) rfl (by kernel_rfl) (by kernel_rfl) (by kernel_rfl) (fun _ _ _ h=>h) (Or.inl ⟨by rfl,?_⟩) hS ?_
    ·intro X hSw;clear hS;go_simp
    simp only[Act.put,aA,aB,aC,aD,aE,aF];refine wT (i:=15) (v:=.pointer (some ⟨P,0,none⟩)) rfl (by kernel_rfl) (by kernel_rfl) (by kernel_rfl) (fun _ _ _ h=>h) (Or.inl ⟨by rfl,?_⟩) hS ?_
    ·intro X hSw;clear hS;go_simp
    simp only[Act.put,aA,aB,aC,aD,aE,aF];refine wT (i:=16) (v:=.slice (some ⟨gs,0,none⟩) room room) rfl (by kernel_rfl) (by kernel_rfl) (by kernel_rfl) (fun _ _ _ h=>h) (Or.inl ⟨by rfl,?_⟩) hS ?_
    ·intro X hSw;clear hS;go_simp
    simp only[Act.put,aA,aB,aC,aD,aE,aF];refine wT (i:=17) (v:=.int .i64 (room:Int)) rfl (by kernel_rfl) (by kernel_rfl) (by kernel_rfl) (fun _ _ _ h=>h) (Or.inl ⟨by rfl,?_⟩) hS ?_
    ·intro X hSw;clear hS;go_simp
    simp only[Act.put,aA,aB,aC,aD,aE,aF];refine wT (i:=18) (v:=.int .i64 (Z:Int)) rfl (by kernel_rfl) (by kernel_rfl) (by kernel_rfl) (fun _ _ _ h=>h) (Or.inl ⟨by rfl,?_⟩) hS ?_
    ·intro X hSw;clear hS;go_simp;omega
    simp only[Act.put,aA,aB,aC,aD,aE,aF];refine wT (i:=19) (v:=.agg #[.bool e,.int .u32 (i:Int),.bool r,.int .i64 d,.slice ao m c']) rfl (by kernel_rfl) (by kernel_rfl) (by kernel_rfl) (fun _ _ _ h=>h) (yieldsIf_load_mid (by rfl) 25 (.tmp 7) rfl PB 0 rfl [.bool e,.int .u32 (i:Int),.bool r,.int .i64 d,.slice ao m c'] _ (fun X h=>h.2.2.2) Tryz.underlying25 rfl sz93) hS ?_
    simp only[Act.put,aA,aB,aC,aD,aE,aF];refine wT (i:=20) (v:=.pointer (some ⟨gs,Z*5,none⟩)) rfl (by kernel_rfl) (by kernel_rfl) (by kernel_rfl) (fun _ _ _ h=>h) (Or.inl ⟨by rfl,?_⟩) hS ?_
    ·intro X hSw;clear hS;go_simp
    simp only[Act.put,aA,aB,aC,aD,aE,aF];refine wpAnyH_all (rs:=[21]) (by kernel_rfl) (by simp) ?_
    refine AllReadyH.cons rfl (fun K hK=>?_) AllReadyH.nil
    rw[if_pos (by rfl)]
    refine wp_store_mid 25 (.tmp 41) (.tmp 40) rfl gs (Z*5) _ rfl rfl HZT.out sz93 (one5 _ _ _ _ _ _ _) ?_
    simp only[Act.put,aD,aE,aF]
    have HT4:Hid (pt5 w0 W (World.setCells (World.drew W3) gs (Z*5) [.bool e,.int .u32 (i:Int),.bool r,.int .i64 d,.slice ao m c']) P gs room first (L++its.take (k+1)) C):=HST.out _ _ (HT3.out.below HG.out.2 (Below.refl _ _).drew)
    have HP4:Hid (blk (World.setCells (World.drew W3) gs (Z*5) [.bool e,.int .u32 (i:Int),.bool r,.int .i64 d,.slice ao m c']) PB [.bool e,.int .u32 (i:Int),.bool r,.int .i64 d,.slice ao m c'] 25):=(show blk (World.drew W3) PB [.bool e,.int .u32 (i:Int),.bool r,.int .i64 d,.slice ao m c'] 25 from HP3.out.2).other HPG.out _ _
    refine hK.out _ (World.setCells (World.drew W3) gs (Z*5) [.bool e,.int .u32 (i:Int),.bool r,.int .i64 d,.slice ao m c']) ⟨HT4.out.p.cell 0 _ rfl,HT4.out.p.cell 1 _ rfl,HT4.out.p.cell 2 _ rfl,HP4.out.load⟩ (fun hS2=>?_)
    clear hS hK K;refine wpAnyH_done (by kernel_rfl) ?_ _
    clear hS2 hmod;generalize hW5:World.setCells (World.drew W3) gs (Z*5) _=w5
    have HT5:Hid (pt5 w0 W w5 P gs room first (L++its.take (k+1)) C):=(hW5 ▸ HT4.out)
    clear hW5 HT4 HP4;have z2:=HT5.out.p.cell 2 _ rfl
    have z2f:=HT5.out.p.free 2
    go_wp2
    go_roundw
    case rel=>
     refine⟨k+1,by omega,by go_num,?_⟩
     rw[← HC1.out]
     exact HT5.out.count HG.out.1 (C+1)
    case measure=>simp[intOf];omega
   ·have hkt:k=t:=by omega
    subst hkt;go_wp2
    go_ret;exact⟨rfl,HPT.out⟩
theorem ring8.keep {w0 W W':World} {g room first:Nat} {L:List R8} (h:ring8 w0 W g room first L) (he:W'.heap[g]?=W.heap[g]?):ring8 w0 W' g room first L:=by
 intro i hi;obtain⟨ao,m,c,h1,h2⟩:=h i hi
 exact⟨ao,m,c,fun j v hv=>(cell_same he _).trans (h1 j v hv),h2⟩
theorem ring8.store {w0 W:World} {g room first:Nat} {L:List R8} (h:ring8 w0 W g room first L) (hf:first<room) (hL:L.length<room) (hr:rowZ W g (room*8)) (b:R8) (ao:Option Addr) (m c:Nat) (hb:isBytes w0 ao m c b.l) :
  ring8 w0 (W.setCells g ((first+L.length) % room*8) (f8 b ao m c)) g room first (L++[b]):=by
 have hz:(first+L.length) % room<room:=Nat.mod_lt _ (by omega)
 have hzz:(first+L.length) % room*8+8≤room*8:=by
  have:((first+L.length) % room+1)*8≤room*8:=Nat.mul_le_mul_right _ hz
  omega
 intro i hi;rw[List.length_append,List.length_singleton] at hi
 by_cases e:i=L.length
 ·subst e;have hge:(L++[b])[L.length]'(by simp)=b:=by simp
  rw[hge]
  refine⟨ao,m,c,?_,hb⟩
  intro j v hv;have hj:j<(f8 b ao m c).length:=(List.getElem?_eq_some_iff.1 hv).1
  have hj':j<8:=hj
  rw[setCells_row,setRow_at g _ W _ j hj (hr.cell _ (by omega)),← (List.getElem?_eq_some_iff.1 hv).2]
 ·have hi':i<L.length:=by omega
  have hge:(L++[b])[i]'(by simp;omega)=L[i]:=List.getElem_append_left hi'
  rw[hge]
  obtain⟨ao',m',c',h1,h2⟩:=h i hi'
  refine⟨ao',m',c',?_,h2⟩
  intro j v hv;have hj:j<8:=(List.getElem?_eq_some_iff.1 hv).1
  have hne:(first+i) % room≠(first+L.length) % room:=by
   intro e2;have h3:(first+L.length-(first+i)) % room=0:=Nat.sub_mod_eq_zero_of_mod_eq e2.symm
   rw[show first+L.length-(first+i)=L.length-i by omega,Nat.mod_eq_of_lt (by omega)] at h3
   omega
  rw[setCells_row,setRow_other g _ W _ _ ?_]
  ·exact h1 j v hv
  ·show _∨_+8≤_
   rcases Nat.lt_or_gt_of_ne hne with h|h
   ·left
    have:((first+i) % room+1)*8≤(first+L.length) % room*8:=Nat.mul_le_mul_right _ h
    omega
   ·right
    have:((first+L.length) % room+1)*8≤(first+i) % room*8:=Nat.mul_le_mul_right _ h
    omega
structure items8 (w0 W:World) (P gs:Nat) (a:Option Addr) (n c:Nat) (its:List R8):Prop where
 len:n=its.length
 cap:n≤c
 cells:its≠[]→∃ g off,a=some ⟨g,off,none⟩∧g≠P∧g≠gs∧g<W.heap.size∧∀ j (h:j<its.length),∃ ao m c',W.rangeAt g (off+j*8) (f8 its[j] ao m c')∧isBytes w0 ao m c' its[j].l
structure pt8 (w0 W wr:World) (P gs room first:Nat) (M:List R8) (C:Nat):Prop where
 p:blk wr P [.slice (some ⟨gs,0,none⟩) room room,.int .i64 (first:Int),.int .i64 (C:Int)] 132
 z:rowZ wr gs (room*8)
 r:ring8 w0 wr gs room first M
 k:∀ b,b≠P→b≠gs→b<W.heap.size→wr.heap[b]?=W.heap[b]?
 s:W.heap.size≤wr.heap.size
 o:wr.os=W.os∧wr.tape=W.tape∧wr.output=W.output
theorem pt8.below {w0 W wr wr':World} {P gs room first:Nat} {M:List R8} {C:Nat} (h:pt8 w0 W wr P gs room first M C) (hg:gs<W.heap.size) (hb:Below wr.heap.size wr wr'):pt8 w0 W wr' P gs room first M C:=
 ⟨h.p.below hb,h.z.below hb (Nat.lt_of_lt_of_le hg h.s),h.r.keep (hb.block _ (Nat.lt_of_lt_of_le hg h.s)),fun b h1 h2 h3=>(hb.block _ (Nat.lt_of_lt_of_le h3 h.s)).trans (h.k b h1 h2 h3),Nat.le_trans h.s hb.size,⟨hb.os.trans h.o.1,hb.tape.trans h.o.2.1,hb.output.trans h.o.2.2⟩⟩
theorem pt8.store {w0 W wr:World} {P gs room first:Nat} {M:List R8} {C:Nat} (h:pt8 w0 W wr P gs room first M C) (hg:gs≠P) (hf:first<room) (hL:M.length<room) (b:R8) (ao:Option Addr) (m c:Nat) (hb:isBytes w0 ao m c b.l) :
  pt8 w0 W (wr.setCells gs ((first+M.length) % room*8) (f8 b ao m c)) P gs room first (M++[b]) C:=by
 have hz:(first+M.length) % room<room:=Nat.mod_lt _ (by omega)
 have hzz:(first+M.length) % room*8+8≤room*8:=by
  have:((first+M.length) % room+1)*8≤room*8:=Nat.mul_le_mul_right _ hz
  omega
 refine⟨h.p.other (fun e=>hg e.symm) _ _,by rw[setCells_row];exact h.z.put _ _ hzz,h.r.store hf hL h.z b ao m c hb,fun q h1 h2 h3=>(setCells_other gs q h2 _ _ _).trans (h.k q h1 h2 h3),by rw[setCells_size];exact h.s,?_⟩
 have hbel:=setCells_below (B:=0) (Nat.zero_le gs) ((first+M.length) % room*8) (f8 b ao m c) (Below.refl 0 wr)
 exact⟨hbel.os.trans h.o.1,hbel.tape.trans h.o.2.1,hbel.output.trans h.o.2.2⟩
theorem pt8.count {w0 W wr:World} {P gs room first:Nat} {M:List R8} {C:Nat} (h:pt8 w0 W wr P gs room first M C) (hg:gs≠P) (C':Nat):pt8 w0 W (wr.setCell ⟨P,2,none⟩ (.int .i64 (C':Int))) P gs room first M C':=by
 have e:∀ b,b≠P→(wr.setCell ⟨P,2,none⟩ (.int .i64 (C':Int))).heap[b]?=wr.heap[b]?:=fun b hb=>heap_setCell_other _ _ _ _ (by exact hb)
 have hbel:Below 0 wr (wr.setCell ⟨P,2,none⟩ (.int .i64 (C':Int))):=(Below.refl 0 wr).setCell (Nat.zero_le _) _
 exact⟨h.p.set 2 _,h.z.up (e gs hg),h.r.keep (e gs hg),fun q h1 h2 h3=>(e q h1).trans (h.k q h1 h2 h3),Nat.le_trans h.s hbel.size,⟨hbel.os.trans h.o.1,hbel.tape.trans h.o.2.1,hbel.output.trans h.o.2.2⟩⟩
set_option maxHeartbeats 8000000 in
set_option maxRecDepth 20000 in
theorem put8_any (w0 W:World) (P gs room first:Nat) (L its:List R8) (a:Option Addr) (n c:Nat)
  (hP:blk W P [.slice (some ⟨gs,0,none⟩) room room,.int .i64 (first:Int),.int .i64 (L.length:Int)] 132) (hg:gs≠P) (hrow:rowZ W gs (room*8)) (hgl:gs<W.heap.size) (hring:ring8 w0 W gs room first L)
  (hf:first<room) (hL:L.length≤room) (hroom:room≤1000) (hits:items8 w0 W P gs a n c its) (hn:n≤1048576) (t:Nat) (ht:t=min (room-L.length) n) :
  Calls Tryz.prog 163 #[.pointer (some ⟨P,0,none⟩),.slice a n c] W fun o w'=>o = .returned (.int .i64 (t:Int))∧pt8 w0 W w' P gs room first (L++its.take t) (L.length+t):=by
 have HF:Hid (Calls Tryz.prog 182 #[.pointer (some ⟨P,0,none⟩)] W fun o w'=>o = .returned (.int .i64 ((room-L.length:Nat):Int))∧Below W.heap.size W w'):=free8_any W P _ room room first L.length hP hL (by omega)
 have HP0:Hid (pt8 w0 W W P gs room first L L.length):=⟨hP,hrow,hring,fun _ _ _ _=>rfl,Nat.le_refl _,⟨rfl,rfl,rfl⟩⟩
 have hcp:=hits.cap
 have hmin:min ((room-L.length:Nat):Int) (n:Int)=(t:Int):=by omega
 have hmax:max (t:Int) 0=(t:Int):=by omega
 have htn:t≤n:=by omega
 have HTR:Hid (L.length+t≤room):=by show _≤_;omega
 have HIT:Hid (items8 w0 W P gs a n c its):=hits
 have HR:Hid (room≤1000∧first<room):=⟨hroom,hf⟩
 have HG:Hid (gs≠P∧gs<W.heap.size):=⟨hg,hgl⟩
 clear hP hrow hgl hring hits ht hroom hL hg;generalize hfr:((room-L.length:Nat):Int)=fr at *;clear hfr;have hna:a=none∨∃ ad,a=some ad:=by cases a <;> simp
 have hall:Hid (∀ ad,a=some ad→ad.spot=none∨True):=fun _ _=>Or.inr trivial
 clear hall;by_cases hnil:its=[]
 ·have ht0:t=0:=by have:=HIT.out.len;rw[hnil] at this;simp at this;omega
  have hn0:n=0:=by have:=HIT.out.len;rw[hnil] at this;simpa using this
  subst ht0;subst hn0;subst hnil;clear HIT;have hmin0:min fr 0=0:=by simpa using hmin
  clear hmin hmax;rcases hna with rfl|⟨ad,rfl⟩
  ·go_enter Tryz.func163,Tryz.ntmps163
   go_wp2_with fail;refine HF.out.mono ?_
   rintro o w1 ⟨rfl,hb1⟩;have H1:Hid (pt8 w0 W w1 P gs room first L L.length):=HP0.out.below HG.out.2 hb1
   clear hb1;go_wp2_with fail;go_loopw [17] (fun i wr=>i = .int .i64 0∧wr=w1) (fun _ _=>0)
   case atStart=>exact⟨rfl,rfl⟩
   case round=>
    obtain⟨rfl,rfl⟩:=hrel
    go_wp2
    go_ret;refine⟨rfl,?_⟩
    simpa using H1.out
  ·go_enter Tryz.func163,Tryz.ntmps163
   go_wp2_with fail;refine HF.out.mono ?_
   rintro o w1 ⟨rfl,hb1⟩;have H1:Hid (pt8 w0 W w1 P gs room first L L.length):=HP0.out.below HG.out.2 hb1
   clear hb1;go_wp2_with fail;go_loopw [17] (fun i wr=>i = .int .i64 0∧wr=w1) (fun _ _=>0)
   case atStart=>exact⟨rfl,rfl⟩
   case round=>
    obtain⟨rfl,rfl⟩:=hrel
    go_wp2
    go_ret;refine⟨rfl,?_⟩
    simpa using H1.out
 ·obtain⟨g,off,rfl,hgP,hggs,hglt,hc⟩:=HIT.out.cells hnil
  have HC:Hid (∀ j (h:j<its.length),∃ ao m c',W.rangeAt g (off+j*8) (f8 its[j] ao m c')∧isBytes w0 ao m c' its[j].l):=hc
  have HGG:Hid (g≠P∧g≠gs∧g<W.heap.size):=⟨hgP,hggs,hglt⟩
  clear hc hgP hggs hglt hna;go_enter Tryz.func163,Tryz.ntmps163
  go_wp2_with fail;refine HF.out.mono ?_
  rintro o w1 ⟨rfl,hb1⟩;have H1:Hid (pt8 w0 W w1 P gs room first L L.length):=HP0.out.below HG.out.2 hb1
  clear hb1 HF;go_wp2_with fail;clear hmin hmax;go_loopw [17] (fun i wr=>∃ k:Nat,k≤t∧i = .int .i64 (k:Int)∧pt8 w0 W wr P gs room first (L++its.take k) (L.length+k)) (fun i _=>t-(intOf i).toNat)
  case atStart=>exact⟨0,Nat.zero_le _,rfl,by simpa using H1.out⟩
  case round=>
   obtain⟨k,hk,rfl,hp⟩:=hrel
   have HPT:Hid (pt8 w0 W wr P gs room first (L++its.take k) (L.length+k)):=hp
   clear hp;by_cases hlt:k<t
   ·have hkl:k<its.length:=by have:=HIT.out.len;omega
    obtain⟨ao,m,c',hx1,hx2⟩:=HC.out k hkl
    have hge:wr.heap[g]?=W.heap[g]?:=HPT.out.k g HGG.out.1 HGG.out.2.1 HGG.out.2.2
    have hx1':wr.rangeAt g (off+k*8) (f8 its[k] ao m c'):=fun j v hv=>(cell_same hge _).trans (hx1 j v hv)
    have hML:(L++its.take k).length=L.length+k:=by rw[List.length_append,List.length_take];omega
    have HST:Hid (∀ X C,pt8 w0 W X P gs room first (L++its.take k) C→pt8 w0 W (X.setCells gs ((first+(L.length+k)) % room*8) (f8 its[k] ao m c')) P gs room first (L++its.take (k+1)) C):=by
     intro X C hX;have:=hX.store HG.out.1 HR.out.2 (by rw[hML];have:=HTR.out;omega) its[k] ao m c' hx2
     rw[hML,List.append_assoc,← List.take_succ_eq_append_getElem hkl] at this
     exact this
    obtain⟨b,hb⟩ : ∃ b,its[k]=b:=⟨_,rfl⟩
    rw[hb] at hx1' HST
    obtain⟨x,y,z,e,i,r,d,l⟩:=b
    have HRG:Hid (wr.rangeAt g (off+k*8) [.int .i64 x,.int .i64 y,.int .i64 z,.bool e,.int .u32 (i:Int),.bool r,.int .i64 d,.slice ao m c']):=hx1'
    have HP3:Hid (blk (wr.alloc (.cells #[.int .i64 x,.int .i64 y,.int .i64 z,.bool e,.int .u32 (i:Int),.bool r,.int .i64 d,.slice ao m c'] 46)) P [.slice (some ⟨gs,0,none⟩) room room,.int .i64 (first:Int),.int .i64 ((L.length+k:Nat):Int)] 132∧blk (wr.alloc (.cells #[.int .i64 x,.int .i64 y,.int .i64 z,.bool e,.int .u32 (i:Int),.bool r,.int .i64 d,.slice ao m c'] 46)) wr.heap.size [.int .i64 x,.int .i64 y,.int .i64 z,.bool e,.int .u32 (i:Int),.bool r,.int .i64 d,.slice ao m c'] 46):=⟨HPT.out.p.alloc _,blk.new wr _ 46⟩
    have HT3:Hid (pt8 w0 W (wr.alloc (.cells #[.int .i64 x,.int .i64 y,.int .i64 z,.bool e,.int .u32 (i:Int),.bool r,.int .i64 d,.slice ao m c'] 46)) P gs room first (L++its.take k) (L.length+k)):=HPT.out.below HG.out.2 ((Below.refl _ _).alloc (Nat.le_refl _) _)
    have hmod:Int.tmod ((first:Int)+((L.length+k:Nat):Int)) (room:Int)=(((first+(L.length+k)) % room:Nat):Int):=by
     rw[← Int.natCast_add];exact Int.ofNat_tmod _ _
    have hzr:(first+(L.length+k)) % room<room:=Nat.mod_lt _ (by have:=HR.out;omega)
    have hZN:(first+(L.length+k)) % room*8+8≤room*8:=by
     have:((first+(L.length+k)) % room+1)*8≤room*8:=Nat.mul_le_mul_right _ hzr
     omega
    have hroom0:¬ (room:Int)=0:=by have:=HR.out;omega
    have hC1:L.length+k+1=L.length+(k+1):=by omega
    have HC1:Hid (L.length+k+1=L.length+(k+1)):=hC1
    have hr1:=HR.out.1
    have hf1:=HR.out.2
    have hC2:=HTR.out
    have hCr:L.length+k≤1000:=by omega
    clear hx1 hx2 hge hx1' hML hb hC1 hC2;generalize hCC:L.length+k=C at *;clear hCC;generalize hZZ:(first+C) % room=Z at *;clear hZZ;go_wp2_with (first
     | (refine wpList_load_mid (P:=Tryz.prog) rfl 46 _ rfl g (off+k*8) rfl _ _ HRG.out Tryz.underlying46 rfl sz129 ?_))
    have HZT:Hid (World.there (World.drew (wr.alloc (.cells #[.int .i64 x,.int .i64 y,.int .i64 z,.bool e,.int .u32 (i:Int),.bool r,.int .i64 d,.slice ao m c'] 46))) gs (Z*8) 8):=HT3.out.z.there (Z*8) 8 hZN
    clear hZN HRG;have hPBg:wr.heap.size≠gs:=by have:=HG.out.2;have:=HPT.out.s;omega
    have HPG:Hid (wr.heap.size≠gs):=hPBg
    clear hPBg;generalize hPB:wr.heap.size=PB at *;clear hPB;generalize hW3:wr.alloc (.cells #[.int .i64 x,.int .i64 y,.int .i64 z,.bool e,.int .u32 (i:Int),.bool r,.int .i64 d,.slice ao m c'] 46)=W3 at *;clear hW3 HPT;refine wp_region_held (S:=(fun X=>X.cell? ⟨P,0,none⟩=some (.slice (some ⟨gs,0,none⟩) room room)∧X.cell? ⟨P,1,none⟩=some (.int .i64 (first:Int))∧X.cell? ⟨P,2,none⟩=some (.int .i64 (C:Int))∧X.rangeAt PB 0 [.int .i64 x,.int .i64 y,.int .i64 z,.bool e,.int .u32 (i:Int),.bool r,.int .i64 d,.slice ao m c'])) (by kernel_rfl) ?_
    have hS:(fun X=>X.cell? ⟨P,0,none⟩=some (.slice (some ⟨gs,0,none⟩) room room)∧X.cell? ⟨P,1,none⟩=some (.int .i64 (first:Int))∧X.cell? ⟨P,2,none⟩=some (.int .i64 (C:Int))∧X.rangeAt PB 0 [.int .i64 x,.int .i64 y,.int .i64 z,.bool e,.int .u32 (i:Int),.bool r,.int .i64 d,.slice ao m c']) (World.drew W3):=⟨(HP3.out.1.cell 0 _ rfl),(HP3.out.1.cell 1 _ rfl),(HP3.out.1.cell 2 _ rfl),HP3.out.2.load⟩
    simp only[] at hS
    refine wT (i:=0) (v:=.pointer (some ⟨P,0,none⟩)) rfl (by kernel_rfl) (by kernel_rfl) (by kernel_rfl) (fun _ _ _ h=>h) (Or.inl ⟨by rfl,?_⟩) hS ?_
    ·intro X hSw;clear hS;go_simp
    simp only[Act.put,aA,aB,aC,aD,aE]
    refine wT (i:=1) (v:=.pointer (some ⟨P,0,none⟩)) rfl (by kernel_rfl) (by kernel_rfl) (by kernel_rfl) (fun _ _ _ h=>h) (Or.inl ⟨by rfl,?_⟩) hS ?_
    ·intro X hSw;clear hS;go_simp
    simp only[Act.put,aA,aB,aC,aD,aE,aF];refine wT (i:=2) (v:=.pointer (some ⟨P,0,none⟩)) rfl (by kernel_rfl) (by kernel_rfl) (by kernel_rfl) (fun _ _ _ h=>h) (Or.inl ⟨by rfl,?_⟩) hS ?_
    ·intro X hSw;clear hS;go_simp
    simp only[Act.put,aA,aB,aC,aD,aE,aF];refine wT (i:=3) (v:=.slice (some ⟨gs,0,none⟩) room room) rfl (by kernel_rfl) (by kernel_rfl) (by kernel_rfl) (fun _ _ _ h=>h) (Or.inl ⟨by rfl,?_⟩) hS ?_
    ·intro X hSw;clear hS;go_simp
    simp only[Act.put,aA,aB,aC,aD,aE,aF];refine wT (i:=4) (v:=.pointer (some ⟨P,0,none⟩)) rfl (by kernel_rfl) (by kernel_rfl) (by kernel_rfl) (fun _ _ _ h=>h) (Or.inl ⟨by rfl,?_⟩) hS ?_
    ·intro X hSw;clear hS;go_simp
    simp only[Act.put,aA,aB,aC,aD,aE,aF];refine wT (i:=5) (v:=.pointer (some ⟨P,0,none⟩)) rfl (by kernel_rfl) (by kernel_rfl) (by kernel_rfl) (fun _ _ _ h=>h) (Or.inl ⟨by rfl,?_⟩) hS ?_
    ·intro X hSw;clear hS;go_simp
    simp only[Act.put,aA,aB,aC,aD,aE,aF];refine wT (i:=6) (v:=.pointer (some ⟨P,1,none⟩)) rfl (by kernel_rfl) (by kernel_rfl) (by kernel_rfl) (fun _ _ _ h=>h) (Or.inl ⟨by rfl,?_⟩) hS ?_
    ·intro X hSw;clear hS;go_simp
    simp only[Act.put,aA,aB,aC,aD,aE,aF];refine wT (i:=7) (v:=.int .i64 (first:Int)) rfl (by kernel_rfl) (by kernel_rfl) (by kernel_rfl) (fun _ _ _ h=>h) (Or.inl ⟨by rfl,?_⟩) hS ?_
    ·intro X hSw;clear hS;go_simp
    simp only[Act.put,aA,aB,aC,aD,aE,aF];refine wT (i:=8) (v:=.pointer (some ⟨P,0,none⟩)) rfl (by kernel_rfl) (by kernel_rfl) (by kernel_rfl) (fun _ _ _ h=>h) (Or.inl ⟨by rfl,?_⟩) hS ?_
    ·intro X hSw;clear hS;go_simp
    simp only[Act.put,aA,aB,aC,aD,aE,aF];refine wT (i:=9) (v:=.pointer (some ⟨P,0,none⟩)) rfl (by kernel_rfl) (by kernel_rfl) (by kernel_rfl) (fun _ _ _ h=>h) (Or.inl ⟨by rfl,?_⟩) hS ?_
    ·intro X hSw;clear hS;go_simp
    simp only[Act.put,aA,aB,aC,aD,aE,aF];refine wT (i:=10) (v:=.pointer (some ⟨P,2,none⟩)) rfl (by kernel_rfl) (by kernel_rfl) (by kernel_rfl) (fun _ _ _ h=>h) (Or.inl ⟨by rfl,?_⟩) hS ?_
    ·intro X hSw;clear hS;go_simp
    simp only[Act.put,aA,aB,aC,aD,aE,aF];refine wT (i:=11) (v:=.int .i64 (C:Int)) rfl (by kernel_rfl) (by kernel_rfl) (by kernel_rfl) (fun _ _ _ h=>h) (Or.inl ⟨by rfl,?_⟩) hS ?_
    ·intro X hSw;clear hS;go_simp
    simp only[Act.put,aA,aB,aC,aD,aE,aF];refine wT (i:=12) (v:=.int .i64 ((first:Int)+(C:Int))) rfl (by kernel_rfl) (by kernel_rfl) (by kernel_rfl) (fun _ _ _ h=>h) (Or.inl ⟨by rfl,?_⟩) hS ?_
    ·intro X hSw;clear hS;go_simp;rw[IntKind.wrap_i64];omega
    simp only[Act.put,aA,aB,aC,aD,aE,aF];refine wT (i:=13) (v:=.pointer (some ⟨P,0,none⟩)) rfl (by kernel_rfl) (by kernel_rfl) (by kernel_rfl) (fun _ _ _ h=>h) (Or.inl ⟨by rfl,?_⟩) hS ?_
    ·intro X hSw;clear hS;go_simp
    simp only[Act.put,aA,aB,aC,aD,aE,aF];refine wT (i:=14) (v:=.pointer (some ⟨P,0,none⟩)) rfl (by kernel_rfl) (by kernel_rfl) (by kernel_rfl) (fun _ _ _ h=>h) (Or.inl ⟨by rfl,?_⟩) hS ?_
    ·intro X hSw;clear hS;go_simp
    simp only[Act.put,aA,aB,aC,aD,aE,aF];refine wT (i:=15) (v:=.pointer (some ⟨P,0,none⟩)) rfl (by kernel_rfl) (by kernel_rfl) (by kernel_rfl) (fun _ _ _ h=>h) (Or.inl ⟨by rfl,?_⟩) hS ?_
    ·intro X hSw;clear hS;go_simp
    simp only[Act.put,aA,aB,aC,aD,aE,aF];refine wT (i:=16) (v:=.slice (some ⟨gs,0,none⟩) room room) rfl (by kernel_rfl) (by kernel_rfl) (by kernel_rfl) (fun _ _ _ h=>h) (Or.inl ⟨by rfl,?_⟩) hS ?_
    ·intro X hSw;clear hS;go_simp
    simp only[Act.put,aA,aB,aC,aD,aE,aF];refine wT (i:=17) (v:=.int .i64 (room:Int)) rfl (by kernel_rfl) (by kernel_rfl) (by kernel_rfl) (fun _ _ _ h=>h) (Or.inl ⟨by rfl,?_⟩) hS ?_
    ·intro X hSw;clear hS;go_simp
    simp only[Act.put,aA,aB,aC,aD,aE,aF];refine wT (i:=18) (v:=.int .i64 (Z:Int)) rfl (by kernel_rfl) (by kernel_rfl) (by kernel_rfl) (fun _ _ _ h=>h) (Or.inl ⟨by rfl,?_⟩) hS ?_
    ·intro X hSw;clear hS;go_simp;omega
    simp only[Act.put,aA,aB,aC,aD,aE,aF];refine wT (i:=19) (v:=.agg #[.int .i64 x,.int .i64 y,.int .i64 z,.bool e,.int .u32 (i:Int),.bool r,.int .i64 d,.slice ao m c']) rfl (by kernel_rfl) (by kernel_rfl) (by kernel_rfl) (fun _ _ _ h=>h) (yieldsIf_load_mid (by rfl) 46 (.tmp 7) rfl PB 0 rfl [.int .i64 x,.int .i64 y,.int .i64 z,.bool e,.int .u32 (i:Int),.bool r,.int .i64 d,.slice ao m c'] _ (fun X h=>h.2.2.2) Tryz.underlying46 rfl sz129) hS ?_
    simp only[Act.put,aA,aB,aC,aD,aE,aF];refine wT (i:=20) (v:=.pointer (some ⟨gs,Z*8,none⟩)) rfl (by kernel_rfl) (by kernel_rfl) (by kernel_rfl) (fun _ _ _ h=>h) (Or.inl ⟨by rfl,?_⟩) hS ?_
    ·intro X hSw;clear hS;go_simp
    simp only[Act.put,aA,aB,aC,aD,aE,aF];refine wpAnyH_all (rs:=[21]) (by kernel_rfl) (by simp) ?_
    refine AllReadyH.cons rfl (fun K hK=>?_) AllReadyH.nil
    rw[if_pos (by rfl)]
    refine wp_store_mid 46 (.tmp 41) (.tmp 40) rfl gs (Z*8) _ rfl rfl HZT.out sz129 (one8 _ _ _ _ _ _ _ _ _ _) ?_
    simp only[Act.put,aD,aE,aF]
    have HT4:Hid (pt8 w0 W (World.setCells (World.drew W3) gs (Z*8) [.int .i64 x,.int .i64 y,.int .i64 z,.bool e,.int .u32 (i:Int),.bool r,.int .i64 d,.slice ao m c']) P gs room first (L++its.take (k+1)) C):=HST.out _ _ (HT3.out.below HG.out.2 (Below.refl _ _).drew)
    have HP4:Hid (blk (World.setCells (World.drew W3) gs (Z*8) [.int .i64 x,.int .i64 y,.int .i64 z,.bool e,.int .u32 (i:Int),.bool r,.int .i64 d,.slice ao m c']) PB [.int .i64 x,.int .i64 y,.int .i64 z,.bool e,.int .u32 (i:Int),.bool r,.int .i64 d,.slice ao m c'] 46):=(show blk (World.drew W3) PB [.int .i64 x,.int .i64 y,.int .i64 z,.bool e,.int .u32 (i:Int),.bool r,.int .i64 d,.slice ao m c'] 46 from HP3.out.2).other HPG.out _ _
    refine hK.out _ (World.setCells (World.drew W3) gs (Z*8) [.int .i64 x,.int .i64 y,.int .i64 z,.bool e,.int .u32 (i:Int),.bool r,.int .i64 d,.slice ao m c']) ⟨HT4.out.p.cell 0 _ rfl,HT4.out.p.cell 1 _ rfl,HT4.out.p.cell 2 _ rfl,HP4.out.load⟩ (fun hS2=>?_)
    clear hS hK K;refine wpAnyH_done (by kernel_rfl) ?_ _
    clear hS2 hmod;generalize hW5:World.setCells (World.drew W3) gs (Z*8) _=w5
    have HT5:Hid (pt8 w0 W w5 P gs room first (L++its.take (k+1)) C):=(hW5 ▸ HT4.out)
    clear hW5 HT4 HP4;have z2:=HT5.out.p.cell 2 _ rfl
    have z2f:=HT5.out.p.free 2
    go_wp2
    go_roundw
    case rel=>
     refine⟨k+1,by omega,by go_num,?_⟩
     rw[← HC1.out]
     exact HT5.out.count HG.out.1 (C+1)
    case measure=>simp[intOf];omega
   ·have hkt:k=t:=by omega
    subst hkt;go_wp2
    go_ret;exact⟨rfl,HPT.out⟩
theorem sz130r:(Tryz.prog.info? 130).map (·.size)=some 3:=by kernel_rfl
theorem sz132r:(Tryz.prog.info? 132).map (·.size)=some 3:=by kernel_rfl
theorem items5.of {w W:World} {P gs:Nat} {a:Option Addr} {n c:Nat} {its:List R5} (h:isR5s w a n c its) (hb:Below w.heap.size w W) (hP:w.heap.size≤P) (hg:w.heap.size≤gs):items5 w W P gs a n c its:=by
 refine⟨h.len,h.cap,fun hne=>?_⟩
 obtain⟨g,off,e,hc⟩:=h.cells hne
 have hlt:g<w.heap.size:=by
  obtain⟨ao,m,c',hx⟩:=hc 0 (List.length_pos_iff.2 hne)
  exact World.block_lt_of_cell? w _ hx.c0
 refine⟨g,off,e,by omega,by omega,Nat.lt_of_lt_of_le hlt hb.size,fun j hj=>?_⟩
 obtain⟨ao,m,c',hx⟩:=hc j hj
 exact⟨ao,m,c',range_below hx.range hb hlt,hx.dat⟩
set_option maxHeartbeats 4000000 in
set_option maxRecDepth 20000 in
theorem newRing5_any (w0 w:World) (hb0:Below w0.heap.size w0 w) (room:Nat) (its:List R5) (a:Option Addr) (n c:Nat) (h:isR5s w0 a n c its) (h1:1≤room) (h2:room≤1000) (hn:n≤room) :
  Calls Tryz.prog 171 #[.int .i64 (room:Int),.slice a n c] w fun o w'=>∃ gs,o = .returned (.agg #[.slice (some ⟨gs,0,none⟩) room room,.int .i64 0,.int .i64 (n:Int)])∧w.heap.size≤gs∧gs<w'.heap.size∧rowZ w' gs (room*5)∧ring5 w0 w' gs room 0 its∧Below w.heap.size w w':=by
 have hmax:max (room:Int) 0=(room:Int):=by omega
 have HB0:Hid (Below w0.heap.size w0 w):=hb0
 have HH:Hid (isR5s w0 a n c its):=h
 have HL:Hid (n=its.length):=h.len
 have H0:Hid (Below w.heap.size w (w.alloc (.cells #[.slice none 0 0,.int .i64 0,.int .i64 0] 130))∧blk (w.alloc (.cells #[.slice none 0 0,.int .i64 0,.int .i64 0] 130)) w.heap.size [.slice none 0 0,.int .i64 0,.int .i64 0] 130):=⟨(Below.refl _ _).alloc (Nat.le_refl _) _,blk.new w _ 130⟩
 have HR:Hid (1≤room∧room≤1000∧n≤room):=⟨h1,h2,hn⟩
 clear h h1 hn hb0;go_enter Tryz.func171,Tryz.ntmps171
 go_wp2_with (first
  | (refine make_Z _ 32 25 _ 5 48 Tryz.info25 Tryz.underlying32 (by decide) rfl _ _ rfl _ room rfl rfl rfl (by omega) ?_;intro w2 hz2 hg2 hl2;have H2:Hid (rowZ w2 (w.heap.size+1) (room*5)∧w.heap.size+1<w2.heap.size∧Below w.heap.size w w2∧blk w2 w.heap.size [.slice none 0 0,.int .i64 0,.int .i64 0] 130):=⟨by simpa using hz2,by simpa using hl2,⟨hg2.os.trans H0.out.1.os,hg2.tape.trans H0.out.1.tape,hg2.output.trans H0.out.1.output,Nat.le_trans H0.out.1.size hg2.size,fun q hq=>(hg2.block q (Nat.lt_of_lt_of_le hq H0.out.1.size) (by simp)).trans (H0.out.1.block q hq)⟩,(hg2.block _ H0.out.2.lt (by simp)).trans H0.out.2⟩;clear hz2 hg2 hl2))
 have HP3:Hid (blk (w2.alloc (.cells #[.slice (some ⟨w.heap.size+1,0,none⟩) room room,.int .i64 0,.int .i64 0] 130)) w2.heap.size [.slice (some ⟨w.heap.size+1,0,none⟩) room room,.int .i64 ((0:Nat):Int),.int .i64 (([]:List R5).length:Int)] 130):=blk.new w2 _ 130
 have HB3:Below w.heap.size w (w2.alloc (.cells #[.slice (some ⟨w.heap.size+1,0,none⟩) room room,.int .i64 0,.int .i64 0] 130)):=H2.out.2.2.1.alloc H2.out.2.2.1.size _
 refine (put5_any w0 _ w2.heap.size (w.heap.size+1) room 0 [] its a n c HP3.out (by have:=H2.out.2.1;omega) (H2.out.1.below ((Below.refl _ _).alloc (Nat.le_refl _) _) H2.out.2.1) (by have:=H2.out.2.1;simp;omega) (fun i hi=>absurd hi (Nat.not_lt_zero _)) HR.out.1 (Nat.zero_le _) HR.out.2.1 (items5.of HH.out (HB0.out.trans (HB3.mono HB0.out.size)) (Nat.le_trans HB0.out.size H2.out.2.2.1.size) (by have:=HB0.out.size;omega)) (by have:=HR.out;omega) n (by have:=HR.out;simp;omega)).mono ?_
 rintro o w4 ⟨rfl,hp⟩;have H4:Hid (pt5 w0 (w2.alloc (.cells #[.slice (some ⟨w.heap.size+1,0,none⟩) room room,.int .i64 0,.int .i64 0] 130)) w4 w2.heap.size (w.heap.size+1) room 0 its n∧blk w4 w.heap.size [.slice none 0 0,.int .i64 0,.int .i64 0] 130∧Below w.heap.size w w4∧w.heap.size+1<w4.heap.size∧w.heap.size<w2.heap.size):=by
  have hs2:=H2.out.2.1
  have hp':pt5 w0 (w2.alloc (.cells #[.slice (some ⟨w.heap.size+1,0,none⟩) room room,.int .i64 0,.int .i64 0] 130)) w4 w2.heap.size (w.heap.size+1) room 0 its n:=by
   have e1:([]:List R5)++its.take n=its:=by rw[HL.out];simp
   have e2:([]:List R5).length+n=n:=by simp
   rw[e1,e2] at hp
   exact hp
  refine⟨hp',(hp'.k w.heap.size (by omega) (by omega) (by simp;omega)).trans ((Below.heap_alloc _ _ _ (by omega)).trans H2.out.2.2.2),⟨hp'.o.1.trans HB3.os,hp'.o.2.1.trans HB3.tape,hp'.o.2.2.trans HB3.output,Nat.le_trans HB3.size hp'.s,fun q hq=>(hp'.k q (by omega) (by omega) (Nat.lt_of_lt_of_le hq HB3.size)).trans (HB3.block q hq)⟩,?_,by omega⟩
  have:=hp'.s
  simp at this
  omega
 clear hp HB3 HP3;have y0:=H4.out.1.p.cell 0 _ rfl
 have y1:=H4.out.1.p.cell 1 _ rfl
 have y2:=H4.out.1.p.cell 2 _ rfl
 have x0:=H4.out.2.1.cell 0 _ rfl
 have x1:=H4.out.2.1.cell 1 _ rfl
 have x2:=H4.out.2.1.cell 2 _ rfl
 have z0:=H4.out.2.1.free 0
 have z1:=H4.out.2.1.free 1
 have z2:=H4.out.2.1.free 2
 have hsz:=H4.out.2.2.2.2
 go_wp2_with fail;clear y0 y1 y2 x0 x1 x2 z0 z1 z2 hsz;have hF:=((H4.out.2.1.set 0 (.slice (some ⟨w.heap.size+1,0,none⟩) room room)).set 1 (.int .i64 0)).set 2 (.int .i64 (n:Int))
 have hL:=run_loadVar_mid (P:=Tryz.prog) _ w.heap.size 0 130 _ _ hF.load Tryz.underlying130 rfl sz130r
 refine bodyPost_ret (results_cell Tryz.results171 _ _ w.heap.size _ rfl hL) rfl ?_
 have e:∀ b,b≠w.heap.size→(((w4.setCell ⟨w.heap.size,0,none⟩ (.slice (some ⟨w.heap.size+1,0,none⟩) room room)).setCell ⟨w.heap.size,1,none⟩ (.int .i64 0)).setCell ⟨w.heap.size,2,none⟩ (.int .i64 (n:Int))).heap[b]?=w4.heap[b]?:=fun b hb=>(heap_setCell_other _ _ _ _ (by exact hb)).trans ((heap_setCell_other _ _ _ _ (by exact hb)).trans (heap_setCell_other _ _ _ _ (by exact hb)))
 refine⟨w.heap.size+1,rfl,by omega,by simpa using H4.out.2.2.2.1,H4.out.1.z.up (e _ (by omega)),H4.out.1.r.keep (e _ (by omega)),?_⟩
 exact ((H4.out.2.2.1.setCell (by exact Nat.le_refl _) _).setCell (by exact Nat.le_refl _) _).setCell (by exact Nat.le_refl _) _
theorem items8.of {w W:World} {P gs:Nat} {a:Option Addr} {n c:Nat} {its:List R8} (h:isR8s w a n c its) (hb:Below w.heap.size w W) (hP:w.heap.size≤P) (hg:w.heap.size≤gs):items8 w W P gs a n c its:=by
 refine⟨h.len,h.cap,fun hne=>?_⟩
 obtain⟨g,off,e,hc⟩:=h.cells hne
 have hlt:g<w.heap.size:=by
  obtain⟨ao,m,c',hx⟩:=hc 0 (List.length_pos_iff.2 hne)
  exact World.block_lt_of_cell? w _ hx.c0
 refine⟨g,off,e,by omega,by omega,Nat.lt_of_lt_of_le hlt hb.size,fun j hj=>?_⟩
 obtain⟨ao,m,c',hx⟩:=hc j hj
 exact⟨ao,m,c',range_below hx.range hb hlt,hx.dat⟩
set_option maxHeartbeats 4000000 in
set_option maxRecDepth 20000 in
theorem newRing8_any (w0 w:World) (hb0:Below w0.heap.size w0 w) (room:Nat) (its:List R8) (a:Option Addr) (n c:Nat) (h:isR8s w0 a n c its) (h1:1≤room) (h2:room≤1000) (hn:n≤room) :
  Calls Tryz.prog 172 #[.int .i64 (room:Int),.slice a n c] w fun o w'=>∃ gs,o = .returned (.agg #[.slice (some ⟨gs,0,none⟩) room room,.int .i64 0,.int .i64 (n:Int)])∧w.heap.size≤gs∧gs<w'.heap.size∧rowZ w' gs (room*8)∧ring8 w0 w' gs room 0 its∧Below w.heap.size w w':=by
 have hmax:max (room:Int) 0=(room:Int):=by omega
 have HB0:Hid (Below w0.heap.size w0 w):=hb0
 have HH:Hid (isR8s w0 a n c its):=h
 have HL:Hid (n=its.length):=h.len
 have H0:Hid (Below w.heap.size w (w.alloc (.cells #[.slice none 0 0,.int .i64 0,.int .i64 0] 132))∧blk (w.alloc (.cells #[.slice none 0 0,.int .i64 0,.int .i64 0] 132)) w.heap.size [.slice none 0 0,.int .i64 0,.int .i64 0] 132):=⟨(Below.refl _ _).alloc (Nat.le_refl _) _,blk.new w _ 132⟩
 have HR:Hid (1≤room∧room≤1000∧n≤room):=⟨h1,h2,hn⟩
 clear h h1 hn hb0;go_enter Tryz.func172,Tryz.ntmps172
 go_wp2_with (first
  | (refine make_Z _ 33 46 _ 8 72 Tryz.info46 Tryz.underlying33 (by decide) rfl _ _ rfl _ room rfl rfl rfl (by omega) ?_;intro w2 hz2 hg2 hl2;have H2:Hid (rowZ w2 (w.heap.size+1) (room*8)∧w.heap.size+1<w2.heap.size∧Below w.heap.size w w2∧blk w2 w.heap.size [.slice none 0 0,.int .i64 0,.int .i64 0] 132):=⟨by simpa using hz2,by simpa using hl2,⟨hg2.os.trans H0.out.1.os,hg2.tape.trans H0.out.1.tape,hg2.output.trans H0.out.1.output,Nat.le_trans H0.out.1.size hg2.size,fun q hq=>(hg2.block q (Nat.lt_of_lt_of_le hq H0.out.1.size) (by simp)).trans (H0.out.1.block q hq)⟩,(hg2.block _ H0.out.2.lt (by simp)).trans H0.out.2⟩;clear hz2 hg2 hl2))
 have HP3:Hid (blk (w2.alloc (.cells #[.slice (some ⟨w.heap.size+1,0,none⟩) room room,.int .i64 0,.int .i64 0] 132)) w2.heap.size [.slice (some ⟨w.heap.size+1,0,none⟩) room room,.int .i64 ((0:Nat):Int),.int .i64 (([]:List R8).length:Int)] 132):=blk.new w2 _ 132
 have HB3:Below w.heap.size w (w2.alloc (.cells #[.slice (some ⟨w.heap.size+1,0,none⟩) room room,.int .i64 0,.int .i64 0] 132)):=H2.out.2.2.1.alloc H2.out.2.2.1.size _
 refine (put8_any w0 _ w2.heap.size (w.heap.size+1) room 0 [] its a n c HP3.out (by have:=H2.out.2.1;omega) (H2.out.1.below ((Below.refl _ _).alloc (Nat.le_refl _) _) H2.out.2.1) (by have:=H2.out.2.1;simp;omega) (fun i hi=>absurd hi (Nat.not_lt_zero _)) HR.out.1 (Nat.zero_le _) HR.out.2.1 (items8.of HH.out (HB0.out.trans (HB3.mono HB0.out.size)) (Nat.le_trans HB0.out.size H2.out.2.2.1.size) (by have:=HB0.out.size;omega)) (by have:=HR.out;omega) n (by have:=HR.out;simp;omega)).mono ?_
 rintro o w4 ⟨rfl,hp⟩;have H4:Hid (pt8 w0 (w2.alloc (.cells #[.slice (some ⟨w.heap.size+1,0,none⟩) room room,.int .i64 0,.int .i64 0] 132)) w4 w2.heap.size (w.heap.size+1) room 0 its n∧blk w4 w.heap.size [.slice none 0 0,.int .i64 0,.int .i64 0] 132∧Below w.heap.size w w4∧w.heap.size+1<w4.heap.size∧w.heap.size<w2.heap.size):=by
  have hs2:=H2.out.2.1
  have hp':pt8 w0 (w2.alloc (.cells #[.slice (some ⟨w.heap.size+1,0,none⟩) room room,.int .i64 0,.int .i64 0] 132)) w4 w2.heap.size (w.heap.size+1) room 0 its n:=by
   have e1:([]:List R8)++its.take n=its:=by rw[HL.out];simp
   have e2:([]:List R8).length+n=n:=by simp
   rw[e1,e2] at hp
   exact hp
  refine⟨hp',(hp'.k w.heap.size (by omega) (by omega) (by simp;omega)).trans ((Below.heap_alloc _ _ _ (by omega)).trans H2.out.2.2.2),⟨hp'.o.1.trans HB3.os,hp'.o.2.1.trans HB3.tape,hp'.o.2.2.trans HB3.output,Nat.le_trans HB3.size hp'.s,fun q hq=>(hp'.k q (by omega) (by omega) (Nat.lt_of_lt_of_le hq HB3.size)).trans (HB3.block q hq)⟩,?_,by omega⟩
  have:=hp'.s
  simp at this
  omega
 clear hp HB3 HP3;have y0:=H4.out.1.p.cell 0 _ rfl
 have y1:=H4.out.1.p.cell 1 _ rfl
 have y2:=H4.out.1.p.cell 2 _ rfl
 have x0:=H4.out.2.1.cell 0 _ rfl
 have x1:=H4.out.2.1.cell 1 _ rfl
 have x2:=H4.out.2.1.cell 2 _ rfl
 have z0:=H4.out.2.1.free 0
 have z1:=H4.out.2.1.free 1
 have z2:=H4.out.2.1.free 2
 have hsz:=H4.out.2.2.2.2
 go_wp2_with fail;clear y0 y1 y2 x0 x1 x2 z0 z1 z2 hsz;have hF:=((H4.out.2.1.set 0 (.slice (some ⟨w.heap.size+1,0,none⟩) room room)).set 1 (.int .i64 0)).set 2 (.int .i64 (n:Int))
 have hL:=run_loadVar_mid (P:=Tryz.prog) _ w.heap.size 0 132 _ _ hF.load Tryz.underlying132 rfl sz132r
 refine bodyPost_ret (results_cell Tryz.results172 _ _ w.heap.size _ rfl hL) rfl ?_
 have e:∀ b,b≠w.heap.size→(((w4.setCell ⟨w.heap.size,0,none⟩ (.slice (some ⟨w.heap.size+1,0,none⟩) room room)).setCell ⟨w.heap.size,1,none⟩ (.int .i64 0)).setCell ⟨w.heap.size,2,none⟩ (.int .i64 (n:Int))).heap[b]?=w4.heap[b]?:=fun b hb=>(heap_setCell_other _ _ _ _ (by exact hb)).trans ((heap_setCell_other _ _ _ _ (by exact hb)).trans (heap_setCell_other _ _ _ _ (by exact hb)))
 refine⟨w.heap.size+1,rfl,by omega,by simpa using H4.out.2.2.2.1,H4.out.1.z.up (e _ (by omega)),H4.out.1.r.keep (e _ (by omega)),?_⟩
 exact ((H4.out.2.2.1.setCell (by exact Nat.le_refl _) _).setCell (by exact Nat.le_refl _) _).setCell (by exact Nat.le_refl _) _
end Go.Proofs.YtaamahohdnbpiaaGreat
