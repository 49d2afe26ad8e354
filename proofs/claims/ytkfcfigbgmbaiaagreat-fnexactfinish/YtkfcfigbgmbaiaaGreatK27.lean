import Derived.Test.YtkfcfigbgmbaiaaGreatK26
import Derived.Test.YtkfcfigbgmbaiaaGreatK24
import Derived.Test.YtkfcfigbgmbaiaaGreatK10
import Derived.Test.YtkfcfigbgmbaiaaGreatK25
import Derived.Test.YtkfcfigbgmbaiaaGreatK07
import Derived.Test.YtkfcfigbgmbaiaaGreatK06
namespace Go.Proofs.YtkfcfigbgmbaiaaGreat
open Go.RowKit
set_option linter.unusedVariables false
set_option maxHeartbeats 16000000
theorem pt8L.base {c0 c2:Int} {r1 gf n1 kf gb n2 kb mb gr f1 n3:Nat} {lo st:Int} {w0 W X wr:World} {P gs room first:Nat} {M:List R8} {C:Nat} (h:pt8L c0 c2 r1 gf n1 kf gb n2 kb mb gr f1 n3 lo st w0 X wr P gs room first M C) (hb:Below W.heap.size W X):pt8L c0 c2 r1 gf n1 kf gb n2 kb mb gr f1 n3 lo st w0 W wr P gs room first M C:=
 ⟨h.p,h.z,h.r,fun b h1 h2 h3=>(h.k b h1 h2 (Nat.lt_of_lt_of_le h3 hb.size)).trans (hb.block b h3),Nat.le_trans hb.size h.s,⟨h.o.1.trans hb.os,h.o.2.1.trans hb.tape,h.o.2.2.trans hb.output⟩⟩
theorem pt8L.lost {c0 c2:Int} {r1 gf n1 kf gb n2 kb mb gr f1 n3:Nat} {lo st:Int} {w0 W wr:World} {P gs room first:Nat} {M:List R8} {C:Nat} (h:pt8L c0 c2 r1 gf n1 kf gb n2 kb mb gr f1 n3 lo st w0 W wr P gs room first M C) (hg:gs≠P) (lo':Int):pt8L c0 c2 r1 gf n1 kf gb n2 kb mb gr f1 n3 lo' st w0 W (wr.setCell ⟨P,13,none⟩ (.int .i64 lo')) P gs room first M C:=by
 have e:∀ b,b≠P→(wr.setCell ⟨P,13,none⟩ (.int .i64 lo')).heap[b]?=wr.heap[b]?:=fun b hb=>heap_setCell_other _ _ _ _ (by exact hb)
 have hbel:Below 0 wr (wr.setCell ⟨P,13,none⟩ (.int .i64 lo')):=(Below.refl 0 wr).setCell (Nat.zero_le _) _
 exact⟨h.p.set 13 _,h.z.up (e gs hg),h.r.keep (e gs hg),fun q h1 h2 h3=>(e q h1).trans (h.k q h1 h2 h3),Nat.le_trans h.s hbel.size,⟨hbel.os.trans h.o.1,hbel.tape.trans h.o.2.1,hbel.output.trans h.o.2.2⟩⟩
set_option maxRecDepth 20000 in
theorem post_any (c0 c2:Int) (r1 gf n1 kf gb n2 kb mb gr f1 n3:Nat) (lo st:Int) (w0 W:World) (P gs room first:Nat) (L:List R8) (x y z:Int) (e:Bool) (i:Nat) (r:Bool) (d:Int) (ao:Option Addr) (m c:Nat) (l:List Nat)
  (hP:blk W P (liL c0 r1 c2 room gf n1 kf gb n2 kb mb gr f1 n3 gs first L.length lo st) 157) (hg:gs≠P) (hrow:rowZ W gs (room*8)) (hgl:gs<W.heap.size) (hring:ring8 w0 W gs room first L) (hf:first<room) (hL:L.length≤room) (hroom:room≤1000) (hby:isBytes w0 ao m c l) (hl0:0≤lo) (hl1:lo≤100000) (t:Nat) (ht:t=min (room-L.length) 1) :
  Calls Tryz.prog 87 #[.pointer (some ⟨P,0,none⟩),.agg #[.int .i64 x,.int .i64 y,.int .i64 z,.bool e,.int .u32 (i:Int),.bool r,.int .i64 d,.slice ao m c]] W fun o w'=>o = .returned (.tuple #[])∧pt8L c0 c2 r1 gf n1 kf gb n2 kb mb gr f1 n3 (min (lo+(1-(t:Int))) 100000) st w0 W w' P gs room first (L++[⟨x,y,z,e,i,r,d,l⟩].take t) (L.length+t):=by
 have hPl:=hP.lt
 have HPT:Hid (∀ X ib,Below W.heap.size W X→W.heap.size≤ib→X.heap[ib]?=some (.cells #[.int .i64 x,.int .i64 y,.int .i64 z,.bool e,.int .u32 (i:Int),.bool r,.int .i64 d,.slice ao m c] 67)→Calls Tryz.prog 146 #[.pointer (some ⟨P,10,none⟩),.slice (some ⟨ib,0,none⟩) 1 1] X fun o w'=>o = .returned (.int .i64 (t:Int))∧pt8L c0 c2 r1 gf n1 kf gb n2 kb mb gr f1 n3 lo st w0 X w' P gs room first (L++[⟨x,y,z,e,i,r,d,l⟩].take t) (L.length+t)):=fun X ib hX hi hb=>
  put8L_any c0 c2 r1 gf n1 kf gb n2 kb mb gr f1 n3 lo st w0 X P gs room first L [⟨x,y,z,e,i,r,d,l⟩] (some ⟨ib,0,none⟩) 1 1 (hP.below hX) hg (hrow.below hX hgl) (Nat.lt_of_lt_of_le hgl hX.size) (hring.keep (hX.block _ hgl)) hf hL hroom ⟨rfl,Nat.le_refl _,fun _=>⟨ib,0,rfl,by omega,by omega,lt_of_some hb,fun j hj=>⟨ao,m,c,by
   have hj0:j=0:=by simp at hj;omega
   subst hj0;exact⟨range_block hb,hby⟩⟩⟩⟩ (by omega) t ht
 have ht1:t≤1:=by omega
 have HPG:Hid (gs≠P∧P<W.heap.size∧gs<W.heap.size):=⟨hg,hPl,hgl⟩
 have H0:Hid (blk (W.alloc (.cells #[.int .i64 x,.int .i64 y,.int .i64 z,.bool e,.int .u32 (i:Int),.bool r,.int .i64 d,.slice ao m c] 67)) W.heap.size [.int .i64 x,.int .i64 y,.int .i64 z,.bool e,.int .u32 (i:Int),.bool r,.int .i64 d,.slice ao m c] 67∧Below W.heap.size W (W.alloc (.cells #[.int .i64 x,.int .i64 y,.int .i64 z,.bool e,.int .u32 (i:Int),.bool r,.int .i64 d,.slice ao m c] 67))):=⟨blk.new W _ 67,(Below.refl _ _).alloc (Nat.le_refl _) _⟩
 clear hP hrow hgl hring hby ht hL hf hroom hg hPl;go_enter Tryz.func87,Tryz.ntmps87
 go_wp2_with fail;refine wp_region_held (S:=fun X=>blk X W.heap.size [.int .i64 x,.int .i64 y,.int .i64 z,.bool e,.int .u32 (i:Int),.bool r,.int .i64 d,.slice ao m c] 67) (by kernel_rfl) ?_
 have hS:blk (World.drew (W.alloc (.cells #[.int .i64 x,.int .i64 y,.int .i64 z,.bool e,.int .u32 (i:Int),.bool r,.int .i64 d,.slice ao m c] 67))) W.heap.size [.int .i64 x,.int .i64 y,.int .i64 z,.bool e,.int .u32 (i:Int),.bool r,.int .i64 d,.slice ao m c] 67:=H0.out.1.below (Below.refl _ _).drew
 have HB0:Hid (Below W.heap.size W (World.drew (W.alloc (.cells #[.int .i64 x,.int .i64 y,.int .i64 z,.bool e,.int .u32 (i:Int),.bool r,.int .i64 d,.slice ao m c] 67)))):=H0.out.2.drew
 clear H0;change wpAnyH Tryz.prog _ _ _ _ _ _ _ (World.drew (W.alloc (.cells #[.int .i64 x,.int .i64 y,.int .i64 z,.bool e,.int .u32 (i:Int),.bool r,.int .i64 d,.slice ao m c] 67)))
 generalize World.drew (W.alloc (.cells #[.int .i64 x,.int .i64 y,.int .i64 z,.bool e,.int .u32 (i:Int),.bool r,.int .i64 d,.slice ao m c] 67))=v0 at *;refine wV 0 (.pointer (some ⟨P,0,none⟩)) rfl (by kernel_rfl) ?_ hS ?_ fun _ _ _ h=>h
 ·intro W hSw;clear hS;go_simp
 simp only[Act.put,aA,aB,aC,aD,aE]
 refine wV 1 (.pointer (some ⟨P,0,none⟩)) rfl (by kernel_rfl) ?_ hS ?_ fun _ _ _ h=>h
 ·intro W hSw;clear hS;go_simp
 simp only[Act.put,aA,aB,aC,aD,aE,aF];refine wV 2 (.pointer (some ⟨P,10,none⟩)) rfl (by kernel_rfl) ?_ hS ?_ fun _ _ _ h=>h
 ·intro W hSw;clear hS;go_simp
 simp only[Act.put,aA,aB,aC,aD,aE,aF];refine wU 3 (.agg [.int .i64 x,.int .i64 y,.int .i64 z,.bool e,.int .u32 (i:Int),.bool r,.int .i64 d,.slice ao m c].toArray) rfl (by kernel_rfl) (yieldsIf_load_mid (by rfl) 67 (.tmp 3) rfl W.heap.size 0 rfl [.int .i64 x,.int .i64 y,.int .i64 z,.bool e,.int .u32 (i:Int),.bool r,.int .i64 d,.slice ao m c] _ (fun X h=>h.load) Tryz.underlying67 rfl sz129) hS ?_ fun _ _ _ h=>h
 simp only[Act.put,aA,aB,aC,aD,aE,aF];refine wpAnyH_all (rs:=[4]) (by kernel_rfl) (by simp) ?_
 refine AllReadyH.cons rfl (fun K2 hK2=>?_) AllReadyH.nil
 go_simp;have bA:Below v0.heap.size v0 (v0.alloc (.cells #[.int .i64 x,.int .i64 y,.int .i64 z,.bool e,.int .u32 (i:Int),.bool r,.int .i64 d,.slice ao m c] 67)):=(Below.refl _ _).alloc (Nat.le_refl _) _
 have hSA:blk (v0.alloc (.cells #[.int .i64 x,.int .i64 y,.int .i64 z,.bool e,.int .u32 (i:Int),.bool r,.int .i64 d,.slice ao m c] 67)) W.heap.size [.int .i64 x,.int .i64 y,.int .i64 z,.bool e,.int .u32 (i:Int),.bool r,.int .i64 d,.slice ao m c] 67:=hS.below bA
 have HNB:Hid ((v0.alloc (.cells #[.int .i64 x,.int .i64 y,.int .i64 z,.bool e,.int .u32 (i:Int),.bool r,.int .i64 d,.slice ao m c] 67)).heap[v0.heap.size]?=some (.cells #[.int .i64 x,.int .i64 y,.int .i64 z,.bool e,.int .u32 (i:Int),.bool r,.int .i64 d,.slice ao m c] 67)):=heap_alloc_new v0 _
 have HB1:Hid (Below W.heap.size W (v0.alloc (.cells #[.int .i64 x,.int .i64 y,.int .i64 z,.bool e,.int .u32 (i:Int),.bool r,.int .i64 d,.slice ao m c] 67))∧W.heap.size<v0.heap.size):=⟨HB0.out.trans (bA.mono HB0.out.size),hS.lt⟩
 refine hK2.out _ _ hSA (fun hS2=>?_)
 clear hK2 K2 hSA hS bA HB0;have hS:=hS2
 clear hS2;generalize v0.alloc (.cells #[.int .i64 x,.int .i64 y,.int .i64 z,.bool e,.int .u32 (i:Int),.bool r,.int .i64 d,.slice ao m c] 67)=v1 at *;generalize v0.heap.size=ib at *;refine wpAnyH_all (rs:=[5]) (by kernel_rfl) (by simp) ?_
 refine AllReadyH.cons rfl (fun K2 hK2=>?_) AllReadyH.nil
 go_simp;refine (HPT.out v1 ib HB1.out.1 (Nat.le_of_lt HB1.out.2) HNB.out).mono ?_
 rintro o w2 ⟨rfl,hq⟩;have hS5:blk w2 W.heap.size [.int .i64 x,.int .i64 y,.int .i64 z,.bool e,.int .u32 (i:Int),.bool r,.int .i64 d,.slice ao m c] 67:=hS.kept (hq.k _ (by have:=HPG.out;omega) (by have:=HPG.out;omega) hS.lt)
 have HQ:Hid (pt8L c0 c2 r1 gf n1 kf gb n2 kb mb gr f1 n3 lo st w0 W w2 P gs room first (L++[⟨x,y,z,e,i,r,d,l⟩].take t) (L.length+t)):=hq.base HB1.out.1
 clear hq HNB HPT;go_wp2_with fail;refine hK2.out _ _ hS5 (fun hS2=>?_)
 clear hK2 K2 hS5 hS;have hS:=hS2
 clear hS2;have hw1:IntKind.i64.wrap (1-(t:Int))=1-(t:Int):=by rw[IntKind.wrap_i64];omega
 refine wV 6 (.int .i64 (1-(t:Int))) rfl (by kernel_rfl) ?_ hS ?_ fun _ _ _ h=>h
 ·intro W hSw;clear hS;go_simp
 simp only[Act.put,aA,aB,aC,aD,aE,aF];refine wV 7 (.int .i64 (1-(t:Int))) rfl (by kernel_rfl) ?_ hS ?_ fun _ _ _ h=>h
 ·intro W hSw;clear hS;go_simp
 simp only[Act.put,aA,aB,aC,aD,aE,aF];refine wpAnyH_done (by kernel_rfl) ?_ _
 clear hS;have y13:=HQ.out.p.cell 13 _ rfl
 have f13:=HQ.out.p.free 13
 have hw2:IntKind.i64.wrap (lo+(1-(t:Int)))=lo+(1-(t:Int)):=by rw[IntKind.wrap_i64];omega
 go_wp2_with fail;first | go_end0 | (try simp only[Exit.inBlock,Exit.then]);refine bodyPost_ret (results_none rfl _ _ _) rfl ?_
 exact⟨rfl,HQ.out.lost HPG.out.1 _⟩
def takeB (bx:List R8) (i:Int):List R8:=if h:0≤i∧i<(bx.length:Int) then (if (bx[i.toNat]'(by omega)).x=1∧(∀ b ∈ bx,¬ (b.x=2∨b.x=3)) then bx.set i.toNat { (bx[i.toNat]'(by omega)) with x:=2 } else bx) else bx
def takeHo (H:Ho) (i:Int):Ho:={ H with bx:=takeB H.bx i }
theorem isR8s.setX {W:World} {g n cap:Nat} {bx:List R8} (h:isR8s W (some ⟨g,0,none⟩) n cap bx) (k:Nat) (hk:k<bx.length) (v:Int):isR8s (W.setCell ⟨g,k*8,none⟩ (.int .i64 v)) (some ⟨g,0,none⟩) n cap (bx.set k { bx[k] with x:=v }):=by
 have hc:∀ j (h:j<bx.length),∃ ao m c,at8 W g (j*8) bx[j] ao m c:=by
  obtain⟨g',off,e,hc⟩:=h.cells (by intro e;subst e;cases hk)
  cases e
  intro j hj;have:=hc j hj
  rw[Nat.zero_add] at this
  exact this
 obtain⟨_,_,_,hk0⟩:=hc k hk
 refine⟨by simpa using h.len,h.cap,fun _=>⟨g,0,rfl,fun j hj=>?_⟩⟩
 have hj':j<bx.length:=by simpa using hj
 obtain⟨ao,m,c,q⟩:=hc j hj'
 refine⟨ao,m,c,?_⟩
 rw[Nat.zero_add]
 have ot:∀ t,j*8+t≠k*8→(W.setCell ⟨g,k*8,none⟩ (.int .i64 v)).cell? ⟨g,j*8+t,none⟩=W.cell? ⟨g,j*8+t,none⟩:=fun t ht=>World.cell?_setCell_other _ _ _ _ (by intro e;simp at e <;> omega)
 have od:=q.dat.typed ⟨g,k*8,none⟩ _ (.int .i64 v) hk0.c0 (by intro x e;cases e)
 by_cases e:j=k
 ·subst e;simp only[List.getElem_set_self]
  exact⟨World.cell?_setCell_same _ _ _ hk0.c0,(ot 1 (by omega)).trans q.c1,(ot 2 (by omega)).trans q.c2,(ot 3 (by omega)).trans q.c3,(ot 4 (by omega)).trans q.c4,(ot 5 (by omega)).trans q.c5,(ot 6 (by omega)).trans q.c6,(ot 7 (by omega)).trans q.cs,od⟩
 ·rw[List.getElem_set_ne (by omega)]
  exact⟨(ot 0 (by omega)).trans q.c0,(ot 1 (by omega)).trans q.c1,(ot 2 (by omega)).trans q.c2,(ot 3 (by omega)).trans q.c3,(ot 4 (by omega)).trans q.c4,(ot 5 (by omega)).trans q.c5,(ot 6 (by omega)).trans q.c6,(ot 7 (by omega)).trans q.cs,od⟩
theorem isR8s.setAt {W:World} {a:Option Addr} {n cap:Nat} {bx:List R8} (h:isR8s W a n cap bx) (p:Addr) (x v:Int) (hp:W.cell? p=some (.int .i64 x)) (hb:∀ g off,a=some ⟨g,off,none⟩→g≠p.block):isR8s (W.setCell p (.int .i64 v)) a n cap bx:=by
 refine⟨h.len,h.cap,fun hne=>?_⟩
 obtain⟨g,off,e,hc⟩:=h.cells hne
 refine⟨g,off,e,fun j hj=>?_⟩
 obtain⟨ao,m,c,q⟩:=hc j hj
 have hg:=heap_setCell_other W p g (.int .i64 v) (hb g off e)
 exact⟨ao,m,c,cell_up q.c0 hg,cell_up q.c1 hg,cell_up q.c2 hg,cell_up q.c3 hg,cell_up q.c4 hg,cell_up q.c5 hg,cell_up q.c6 hg,cell_up q.cs hg,q.dat.typed p _ _ hp (by intro y e;cases e)⟩
theorem isR5s.setAt {W:World} {a:Option Addr} {n cap:Nat} {bx:List R5} (h:isR5s W a n cap bx) (p:Addr) (x v:Int) (hp:W.cell? p=some (.int .i64 x)) (hb:∀ g off,a=some ⟨g,off,none⟩→g≠p.block):isR5s (W.setCell p (.int .i64 v)) a n cap bx:=by
 refine⟨h.len,h.cap,fun hne=>?_⟩
 obtain⟨g,off,e,hc⟩:=h.cells hne
 refine⟨g,off,e,fun j hj=>?_⟩
 obtain⟨ao,m,c,q⟩:=hc j hj
 have hg:=heap_setCell_other W p g (.int .i64 v) (hb g off e)
 exact⟨ao,m,c,cell_up q.c0 hg,cell_up q.c1 hg,cell_up q.c2 hg,cell_up q.c3 hg,cell_up q.cs hg,q.dat.typed p _ _ hp (by intro y e;cases e)⟩
theorem isR3s.setAt {W:World} {a:Option Addr} {n cap:Nat} {bx:List R3} (h:isR3s W a n cap bx) (p:Addr) (x v:Int) (hp:W.cell? p=some (.int .i64 x)):isR3s (W.setCell p (.int .i64 v)) a n cap bx:=by
 refine⟨h.len,h.cap,fun hne=>?_⟩
 obtain⟨g,off,e,hc⟩:=h.cells hne
 refine⟨g,off,e,fun j hj=>?_⟩
 have q:=hc j hj
 have ot:∀ (t:Nat) (u:Value),W.cell? ⟨g,t,none⟩=some u→(∀ y,u≠.int .i64 y)→(W.setCell p (.int .i64 v)).cell? ⟨g,t,none⟩=some u:=fun t u hu hn=>by
  rw[World.cell?_setCell_other _ _ _ _ (by intro e2;rw[← e2,hp] at hu;injection hu with hu;exact hn _ hu.symm)]
  exact hu
 exact⟨ot _ _ q.c0 (by intro y e;cases e),ot _ _ q.c1 (by intro y e;cases e),ot _ _ q.c2 (by intro y e;cases e)⟩
theorem isHo.setX {W:World} {H:Ho} {s:Sl} (h:isHo W H s) {g:Nat} (ha:s.a2=some ⟨g,0,none⟩) (hne:∀ x,s.a3=some ⟨x,0,none⟩∨s.a4=some ⟨x,0,none⟩→g≠x) (ha3:∃ x,s.a3=some ⟨x,0,none⟩) (ha4:∃ x,s.a4=some ⟨x,0,none⟩) (k:Nat) (hk:k<H.bx.length) (v:Int):isHo (W.setCell ⟨g,k*8,none⟩ (.int .i64 v)) { H with bx:=H.bx.set k { H.bx[k] with x:=v } } s:=by
 have hb:=h.bx
 rw[ha] at hb
 obtain⟨g',off,e,hc⟩:=hb.cells (by intro e;rw[e] at hk;cases hk)
 cases e
 obtain⟨_,_,_,q⟩:=hc k hk
 have q0:=q.c0
 rw[Nat.zero_add] at q0
 obtain⟨x3,e3⟩:=ha3
 obtain⟨x4,e4⟩:=ha4
 refine⟨h.fs.setAt _ _ _ q0,?_,h.ff.setAt _ _ _ q0 (fun g2 off e=>?_),h.qu.setAt _ _ _ q0 (fun g2 off e=>?_)⟩
 ·rw[ha]
  exact hb.setX k hk v
 ·rw[e3] at e;cases e
  exact fun e5=>hne x3 (Or.inl e3) e5.symm
 ·rw[e4] at e;cases e
  exact fun e5=>hne x4 (Or.inr e4) e5.symm
structure dtS (w:World) (H:Ho) (s:Sl) (W:World):Prop where
 p:blk W w.heap.size (hoL H s) 39
 r:blk W (w.heap.size+1) Z10 39
 b:Below w.heap.size w W
theorem dtS.below {w:World} {H:Ho} {s:Sl} {W W':World} (h:dtS w H s W) (hb:Below W.heap.size W W'):dtS w H s W':=⟨h.p.below hb,h.r.below hb,h.b.trans (hb.mono h.b.size)⟩
theorem dtS.new (w:World) (H:Ho) (s:Sl):dtS w H s ((w.alloc (.cells (hoL H s).toArray 39)).alloc (.cells Z10.toArray 39)):=by
 refine⟨(blk.new w _ 39).alloc _,?_,((Below.refl _ _).alloc (Nat.le_refl _) _).alloc (by simp) _⟩
 have:=blk.new (w.alloc (.cells (hoL H s).toArray 39)) Z10 39
 simpa using this
set_option maxRecDepth 20000 in
theorem indexBox_any (w:World) (a:Option Addr) (n cap:Nat) (bs:List R8) (h:isR8s w a n cap bs) (hn:n≤1048576) :
  Calls Tryz.prog 192 #[.slice a n cap,.func (.func 182) #[] #[]] w fun o w'=>∃ z:Int,o = .returned (.int .i64 z)∧bsy bs z∧Below w.heap.size w w':=by
 have hlen:=h.len
 have hcp:=h.cap
 by_cases hl:bs=[]
 ·subst hl;have hn0:n=0:=hlen
  subst hn0;clear hlen h;go_enter Tryz.func192,Tryz.ntmps192
  go_wp2
  go_loopw [8] (fun i wr=>i = .int .i64 0∧wr=w) (fun _ _=>0)
  case atStart=>exact⟨rfl,rfl⟩
  case round=>
   obtain⟨rfl,rfl⟩:=hrel
   go_wp2
   go_ret;exact⟨-1,rfl,Or.inr ⟨fun k hk=>(by cases hk),rfl⟩,Below.refl _ _⟩
 ·obtain⟨g,off,rfl,hc⟩:=h.cells hl
  have HL:Hid (n=bs.length):=hlen
  have HC:Hid (∀ j (h:j<bs.length),∃ ao m c,at8 w g (off+j*8) bs[j] ao m c):=hc
  clear h hlen hc;go_enter Tryz.func192,Tryz.ntmps192
  go_wp2
  go_loopw [8] (fun i wr=>∃ k:Nat,k≤n∧i = .int .i64 (k:Int)∧(∀ j (hj:j<bs.length),j<k→¬ onW bs[j])∧Below w.heap.size w wr) (fun i _=>n-(intOf i).toNat)
  case atStart=>exact⟨0,Nat.zero_le _,rfl,fun j hj h=>absurd h (Nat.not_lt_zero _),Below.refl _ _⟩
  case round=>
   obtain⟨k,hk,rfl,hdone,hb⟩:=hrel
   by_cases hlt:k<n
   ·have hkl:k<bs.length:=by have:=HL.out;omega
    obtain⟨ao,m,c,hx⟩:=HC.out k hkl
    have hx':=hx.below hb
    have HRG:=hx'.range
    have HW:Hid (Calls Tryz.prog 182 #[bxV bs[k].x bs[k].y bs[k].z bs[k].e bs[k].i bs[k].r bs[k].d ao m c] wr fun o w'=>o = .returned (.bool (bs[k].x == 2 || bs[k].x == 3))∧Below wr.heap.size wr w'):=isOnWire_any wr bs[k] ao m c
    have HB:Hid (Below w.heap.size w wr):=hb
    have HD:Hid (∀ j (hj:j<bs.length),j<k→¬ onW bs[j]):=hdone
    clear hx hx' hb hdone;have HON:Hid ((bs[k].x == 2 || bs[k].x == 3)=true↔onW bs[k]):=by show _↔_;unfold onW;simp
    generalize (bs[k].x == 2 || bs[k].x == 3)=q at *;have HRG:Hid (wr.rangeAt g (off+k*8) [.int .i64 bs[k].x,.int .i64 bs[k].y,.int .i64 bs[k].z,.bool bs[k].e,.int .u32 (bs[k].i:Int),.bool bs[k].r,.int .i64 bs[k].d,.slice ao m c]):=HRG
    cases q
    ·have HN:Hid (∀ j (hj:j<bs.length),j<k+1→¬ onW bs[j]):=fun j hj hjk=>by
      by_cases e:j=k
      ·subst e;exact fun h=>absurd (HON.out.2 h) (by simp)
      ·exact HD.out j hj (by omega)
     clear HON;generalize bs[k].x=x0 at *;generalize bs[k].y=y0 at *;generalize bs[k].z=z0 at *;generalize bs[k].e=e0 at *;generalize bs[k].i=i0 at *;generalize bs[k].r=r0 at *;generalize bs[k].d=d0 at *;go_wp2_with (first
      | (refine wpList_load_mid (P:=Tryz.prog) rfl 166 _ rfl g (off+k*8) rfl _ _ HRG.out Tryz.underlying166 rfl sz95 ?_)
      | (go_at_call 182;refine HW.out.mono ?_;rintro o w5 ⟨rfl,hb5⟩))
     go_roundw
     case rel=>exact⟨k+1,by omega,by go_num,HN.out,HB.out.trans (hb5.mono HB.out.size)⟩
     case measure=>simp[intOf];omega
    ·have HN:Hid (bsy bs (k:Int)):=Or.inl ⟨k,hkl,HON.out.1 rfl,HD.out,rfl⟩
     clear HON;generalize bs[k].x=x0 at *;generalize bs[k].y=y0 at *;generalize bs[k].z=z0 at *;generalize bs[k].e=e0 at *;generalize bs[k].i=i0 at *;generalize bs[k].r=r0 at *;generalize bs[k].d=d0 at *;go_wp2_with (first
      | (refine wpList_load_mid (P:=Tryz.prog) rfl 166 _ rfl g (off+k*8) rfl _ _ HRG.out Tryz.underlying166 rfl sz95 ?_)
      | (go_at_call 182;refine HW.out.mono ?_;rintro o w5 ⟨rfl,hb5⟩))
     go_ret;exact⟨k,rfl,HN.out,HB.out.trans (hb5.mono HB.out.size)⟩
   ·have hkn:n=k:=by omega
    subst hkn;go_wp2
    go_ret;exact⟨-1,rfl,Or.inr ⟨fun j hj=>hdone j hj (by have:=HL.out;omega),rfl⟩,hb⟩
theorem onWire_any (w:World) (P:Nat) (a:Option Addr) (n cap:Nat) (bx:List R8) (y5:w.cell? ⟨P,5,none⟩=some (.slice a n cap)) (h:isR8s w a n cap bx) (hn:n≤1048576) :
  Calls Tryz.prog 152 #[.pointer (some ⟨P,0,none⟩)] w fun o w'=>∃ z:Int,o = .returned (.int .i64 z)∧bsy bx z∧Below w.heap.size w w':=by
 have HI:Hid (Calls Tryz.prog 192 #[.slice a n cap,.func (.func 182) #[] #[]] w fun o w'=>∃ z:Int,o = .returned (.int .i64 z)∧bsy bx z∧Below w.heap.size w w'):=indexBox_any w a n cap bx h hn
 clear h;go_enter Tryz.func152,Tryz.ntmps152
 go_wp2_with (first | (go_at_call 192;refine HI.out.mono ?_;rintro o w5 ⟨z,rfl,hz,hb5⟩;have HZ:Hid (bsy bx z∧Below w.heap.size w w5):=⟨hz,hb5⟩;clear hz hb5))
 go_ret;exact⟨z,rfl,HZ.out.1,HZ.out.2⟩
theorem ring5.base {w0 w W:World} {g room first:Nat} {L:List R5} (h:ring5 w0 W g room first L) (hb:Below w0.heap.size w0 w):ring5 w W g room first L:=fun i hi=>by
 obtain⟨ao,m,c,h1,h2⟩:=h i hi
 exact⟨ao,m,c,h1,h2.below hb⟩
theorem ring8.base {w0 w W:World} {g room first:Nat} {L:List R8} (h:ring8 w0 W g room first L) (hb:Below w0.heap.size w0 w):ring8 w W g room first L:=fun i hi=>by
 obtain⟨ao,m,c,h1,h2⟩:=h i hi
 exact⟨ao,m,c,h1,h2.below hb⟩
def toldQ (w:World) (H:Ho) (e:Ending) (w':World):Prop:=∃ s:Wh,e = .returned (.agg (hoL H s.sl).toArray)∧St w.heap.size w' (fun W=>isHo W H s.sl)∧whS w.heap.size w'.heap.size w' s∧whD s∧whE s∧Below w.heap.size w w'
theorem at8.rg {w:World} {g o:Nat} {b:R8} {ao:Option Addr} {m c:Nat} (h:at8 w g o b ao m c):w.rangeAt g o [.int .i64 b.x,.int .i64 b.y,.int .i64 b.z,.bool b.e,.int .u32 (b.i:Int),.bool b.r,.int .i64 b.d,.slice ao m c]:=by
 intro j v hv;match j,hv with
 | 0,hv=>cases hv;exact h.c0
 | 1,hv=>cases hv;exact h.c1
 | 2,hv=>cases hv;exact h.c2
 | 3,hv=>cases hv;exact h.c3
 | 4,hv=>cases hv;exact h.c4
 | 5,hv=>cases hv;exact h.c5
 | 6,hv=>cases hv;exact h.c6
 | 7,hv=>cases hv;exact h.cs
 | j+8,hv=>simp at hv
def wrP (bx:List R8):Prop:=¬ ∀ k (h:k<bx.length),¬ onW bx[k]
set_option maxRecDepth 20000 in
theorem isSending_any (w:World) (C:Co) (s:Sl) (h:isR8s w s.a2 s.n2 s.k2 C.ho.bx) (hn:s.n2≤1000) :
  Calls Tryz.prog 143 #[.agg (coL C s).toArray] w fun o w'=>retB o (wrP C.ho.bx)∧Below w.heap.size w w':=by
 have H0:Hid (ctS w w.heap.size C s (w.alloc (.cells (coL C s).toArray 41))):=ctS.new w C s
 have hcp:=h.cap
 have HL:Hid (s.n2=C.ho.bx.length):=h.len
 have HH:Hid (isR8s w s.a2 s.n2 s.k2 C.ho.bx):=h
 obtain⟨n2,e2⟩ : ∃ n2,s.n2=n2:=⟨_,rfl⟩
 obtain⟨a2,ea⟩ : ∃ a2,s.a2=a2:=⟨_,rfl⟩
 obtain⟨k2,ek⟩ : ∃ k2,s.k2=k2:=⟨_,rfl⟩
 obtain⟨bx,eb⟩ : ∃ bx,C.ho.bx=bx:=⟨_,rfl⟩
 have HY:Hid (∀ X,ctS w w.heap.size C s X→X.cell? ⟨w.heap.size,16,none⟩=some (.slice a2 n2 k2)):=fun X hX=>by
  have:=hX.p.cell 16 (.slice s.a2 s.n2 s.k2) rfl
  rw[e2,ea,ek] at this
  exact this
 rw[e2,ea,ek,eb] at HH
 rw[e2,eb] at HL
 rw[e2,ek] at hcp
 rw[e2] at hn
 rw[eb]
 have y16:=HY.out _ H0.out
 clear h e2 ea ek eb;go_enter Tryz.func143,Tryz.ntmps143
 generalize hW0:w.alloc (.cells (coL C s).toArray 41)=W0 at *;go_wp2_with fail;clear y16;go_loopw [9] (fun i wr=>∃ k:Nat,k≤n2∧i = .int .i64 (k:Int)∧(∀ j (hj:j<bx.length),j<k→¬ onW bx[j])∧Below w.heap.size w wr) (fun i _=>n2-(intOf i).toNat)
 case atStart=>exact⟨0,Nat.zero_le _,rfl,fun j hj h=>absurd h (Nat.not_lt_zero _),H0.out.b⟩
 case round=>
  obtain⟨k,hk,rfl,hA,hb⟩:=hrel
  have HB:Hid (Below w.heap.size w wr):=hb
  have HA:Hid (∀ j (hj:j<bx.length),j<k→¬ onW bx[j]):=hA
  clear hb hA H0;by_cases hlt:k<n2
  ·have hkl:k<bx.length:=by have:=HL.out;omega
   obtain⟨g,off,rfl,hc⟩:=HH.out.cells (by intro e;rw[e] at hkl;cases hkl)
   obtain⟨ao,m,c,hx⟩:=hc k hkl
   have HR:Hid (wr.rangeAt g (off+k*8) [.int .i64 bx[k].x,.int .i64 bx[k].y,.int .i64 bx[k].z,.bool bx[k].e,.int .u32 (bx[k].i:Int),.bool bx[k].r,.int .i64 bx[k].d,.slice ao m c]):=(hx.below HB.out).rg
   have HON:Hid (∀ W,Calls Tryz.prog 182 #[bxV bx[k].x bx[k].y bx[k].z bx[k].e bx[k].i bx[k].r bx[k].d ao m c] W fun o w'=>o = .returned (.bool (bx[k].x == 2 || bx[k].x == 3))∧Below W.heap.size W w'):=fun W=>isOnWire_any W bx[k] ao m c
   have HW:Hid (onW bx[k]↔(bx[k].x == 2 || bx[k].x == 3)=true):=by unfold Hid onW;simp
   have HNX:Hid (¬ onW bx[k]→∀ j (hj:j<bx.length),j<k+1→¬ onW bx[j]):=fun hx j hj hjk=>by
    by_cases e:j=k
    ·subst e;exact hx
    ·exact HA.out j hj (by omega)
   have HYS:Hid (onW bx[k]→wrP bx):=fun h hall=>hall k hkl h
   clear hc hx HA;generalize onW bx[k]=ON at *;generalize bx[k]=b at *;obtain⟨bX,bY,bZ,bE,bI,bR,bD,bl⟩:=b
   simp only[] at *
   have HZ:Hid (blk (wr.alloc (.cells ([.int .i64 0,.int .i64 0,.int .i64 0,.bool false,.int .u32 0,.bool false,.int .i64 0,.slice none 0 0]:List Value).toArray 166)) wr.heap.size ([.int .i64 0,.int .i64 0,.int .i64 0,.bool false,.int .u32 0,.bool false,.int .i64 0,.slice none 0 0]:List Value) 166∧Below wr.heap.size wr (wr.alloc (.cells ([.int .i64 0,.int .i64 0,.int .i64 0,.bool false,.int .u32 0,.bool false,.int .i64 0,.slice none 0 0]:List Value).toArray 166))):=⟨blk.new wr _ 166,(Below.refl _ _).alloc (Nat.le_refl _) _⟩
   go_wp2_with (first
    | (refine wpList_load_mid (P:=Tryz.prog) rfl 166 (.tmp 11) rfl g (off+k*8) rfl [.int .i64 bX,.int .i64 bY,.int .i64 bZ,.bool bE,.int .u32 (bI:Int),.bool bR,.int .i64 bD,.slice ao m c] _ HR.out Tryz.underlying166 rfl sz95 ?_)
    | (refine wpList_store_mid (P:=Tryz.prog) rfl 166 (.tmp 4) (.tmp 12) rfl wr.heap.size 0 #[.int .i64 bX,.int .i64 bY,.int .i64 bZ,.bool bE,.int .u32 (bI:Int),.bool bR,.int .i64 bD,.slice ao m c] rfl rfl (HZ.out.1.there 0 8 (by simp)) sz95 (one8 _ _ _ _ _ _ _ _ _ _) ?_;generalize hW6:World.setCells (wr.alloc _) wr.heap.size 0 _=w6;have HP6:Hid (blk w6 wr.heap.size [.int .i64 bX,.int .i64 bY,.int .i64 bZ,.bool bE,.int .u32 (bI:Int),.bool bR,.int .i64 bD,.slice ao m c] 166∧Below wr.heap.size wr w6):=(by rw[← hW6];exact⟨(by have:=blk.put [] ([.int .i64 0,.int .i64 0,.int .i64 0,.bool false,.int .u32 0,.bool false,.int .i64 0,.slice none 0 0]:List Value) [] [.int .i64 bX,.int .i64 bY,.int .i64 bZ,.bool bE,.int .u32 (bI:Int),.bool bR,.int .i64 bD,.slice ao m c] (w:=wr.alloc (.cells ([.int .i64 0,.int .i64 0,.int .i64 0,.bool false,.int .u32 0,.bool false,.int .i64 0,.slice none 0 0]:List Value).toArray 166)) (b:=wr.heap.size) (T:=166) (by simpa using HZ.out.1) rfl;simpa using this),setCells_below (Nat.le_refl _) 0 _ HZ.out.2⟩);clear hW6 HZ)
    | (refine wpList_load_mid (P:=Tryz.prog) rfl 166 (.tmp 4) rfl wr.heap.size 0 rfl [.int .i64 bX,.int .i64 bY,.int .i64 bZ,.bool bE,.int .u32 (bI:Int),.bool bR,.int .i64 bD,.slice ao m c] _ HP6.out.1.load Tryz.underlying166 rfl sz95 ?_))
   refine (HON.out _).mono ?_
   rintro o w7 ⟨rfl,hb7⟩;have HB7:Hid (Below w.heap.size w w7):=HB.out.trans ((HP6.out.2.trans (hb7.mono HP6.out.2.size)).mono HB.out.size)
   clear hb7 HP6 HON HR HB;have HWo:=HW
   generalize (bX == 2 || bX == 3)=q at *;cases q
   ·have HN:Hid (∀ j (hj:j<bx.length),j<k+1→¬ onW bx[j]):=HNX.out (fun h=>by have:=HW.out.1 h;simp at this)
    go_wp2_with fail;go_roundw
    case rel=>exact⟨k+1,by omega,by go_num,HN.out,HB7.out⟩
    case measure=>simp[intOf];omega
   ·go_wp2_with fail;go_ret;exact⟨⟨true,rfl,by simp;exact HYS.out (HW.out.2 trivial)⟩,HB7.out⟩
  ·have hkn:k=n2:=by omega
   subst hkn;go_wp2_with fail;go_ret;exact⟨⟨false,rfl,by simp only[Bool.false_eq_true,false_iff];exact fun h=>h (fun j hj=>HA.out j hj (by have:=HL.out;omega))⟩,HB.out⟩
end Go.Proofs.YtkfcfigbgmbaiaaGreat
