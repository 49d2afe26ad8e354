import Derived.Test.YtkfcfigbgmbaiaaGreatK25
import Derived.Test.YtkfcfigbgmbaiaaGreatK24
import Derived.Test.YtkfcfigbgmbaiaaGreatK23
namespace Go.Proofs.YtkfcfigbgmbaiaaGreat
open Go.RowKit
set_option linter.unusedVariables false
set_option maxHeartbeats 16000000
theorem free5L (W:World) (P:Nat) (a:Option Addr) (n cap:Nat) (count:Nat) (y0:W.cell? ⟨P,7,none⟩=some (.slice a n cap)) (y2:W.cell? ⟨P,9,none⟩=some (.int .i64 (count:Int))) (hc:count≤n) (hn:n≤1048576) :
  Calls Tryz.prog 159 #[.pointer (some ⟨P,7,none⟩)] W fun o w'=>o = .returned (.int .i64 ((n-count:Nat):Int))∧Below W.heap.size W w':=by
 go_enter Tryz.func159,Tryz.ntmps159
 go_wp2
 go_region
 all_goals
  go_wp2
  go_ret;refine⟨ret_int ?_,(Below.refl _ _).drew⟩
  omega
structure pt5L (c0 c2:Int) (r3 gf n1 kf gb n2 kb mb gq f3 n4:Nat) (lo st:Int) (w0 W wr:World) (P gs room first:Nat) (M:List R5) (C:Nat):Prop where
 p:blk wr P (liL c0 room c2 r3 gf n1 kf gb n2 kb mb gs first C gq f3 n4 lo st) 157
 z:rowZ wr gs (room*5)
 r:ring5 w0 wr gs room first M
 k:∀ b,b≠P→b≠gs→b<W.heap.size→wr.heap[b]?=W.heap[b]?
 s:W.heap.size≤wr.heap.size
 o:wr.os=W.os∧wr.tape=W.tape∧wr.output=W.output
theorem pt5L.below {c0 c2:Int} {r3 gf n1 kf gb n2 kb mb gq f3 n4:Nat} {lo st:Int} {w0 W wr wr':World} {P gs room first:Nat} {M:List R5} {C:Nat} (h:pt5L c0 c2 r3 gf n1 kf gb n2 kb mb gq f3 n4 lo st w0 W wr P gs room first M C) (hg:gs<W.heap.size) (hb:Below wr.heap.size wr wr'):pt5L c0 c2 r3 gf n1 kf gb n2 kb mb gq f3 n4 lo st w0 W wr' P gs room first M C:=
 ⟨h.p.below hb,h.z.below hb (Nat.lt_of_lt_of_le hg h.s),h.r.keep (hb.block _ (Nat.lt_of_lt_of_le hg h.s)),fun b h1 h2 h3=>(hb.block _ (Nat.lt_of_lt_of_le h3 h.s)).trans (h.k b h1 h2 h3),Nat.le_trans h.s hb.size,⟨hb.os.trans h.o.1,hb.tape.trans h.o.2.1,hb.output.trans h.o.2.2⟩⟩
theorem pt5L.store {c0 c2:Int} {r3 gf n1 kf gb n2 kb mb gq f3 n4:Nat} {lo st:Int} {w0 W wr:World} {P gs room first:Nat} {M:List R5} {C:Nat} (h:pt5L c0 c2 r3 gf n1 kf gb n2 kb mb gq f3 n4 lo st w0 W wr P gs room first M C) (hg:gs≠P) (hf:first<room) (hL:M.length<room) (b:R5) (ao:Option Addr) (m c:Nat) (hb:isBytes w0 ao m c b.l) :
  pt5L c0 c2 r3 gf n1 kf gb n2 kb mb gq f3 n4 lo st w0 W (wr.setCells gs ((first+M.length) % room*5) (f5 b ao m c)) P gs room first (M++[b]) C:=by
 have hz:(first+M.length) % room<room:=Nat.mod_lt _ (by omega)
 have hzz:(first+M.length) % room*5+5≤room*5:=by
  have:((first+M.length) % room+1)*5≤room*5:=Nat.mul_le_mul_right _ hz
  omega
 refine⟨h.p.other (fun e=>hg e.symm) _ _,by rw[setCells_row];exact h.z.put _ _ hzz,h.r.store hf hL h.z b ao m c hb,fun q h1 h2 h3=>(setCells_other gs q h2 _ _ _).trans (h.k q h1 h2 h3),by rw[setCells_size];exact h.s,?_⟩
 have hbel:=setCells_below (B:=0) (Nat.zero_le gs) ((first+M.length) % room*5) (f5 b ao m c) (Below.refl 0 wr)
 exact⟨hbel.os.trans h.o.1,hbel.tape.trans h.o.2.1,hbel.output.trans h.o.2.2⟩
theorem pt5L.count {c0 c2:Int} {r3 gf n1 kf gb n2 kb mb gq f3 n4:Nat} {lo st:Int} {w0 W wr:World} {P gs room first:Nat} {M:List R5} {C:Nat} (h:pt5L c0 c2 r3 gf n1 kf gb n2 kb mb gq f3 n4 lo st w0 W wr P gs room first M C) (hg:gs≠P) (C':Nat):pt5L c0 c2 r3 gf n1 kf gb n2 kb mb gq f3 n4 lo st w0 W (wr.setCell ⟨P,9,none⟩ (.int .i64 (C':Int))) P gs room first M C':=by
 have e:∀ b,b≠P→(wr.setCell ⟨P,9,none⟩ (.int .i64 (C':Int))).heap[b]?=wr.heap[b]?:=fun b hb=>heap_setCell_other _ _ _ _ (by exact hb)
 have hbel:Below 0 wr (wr.setCell ⟨P,9,none⟩ (.int .i64 (C':Int))):=(Below.refl 0 wr).setCell (Nat.zero_le _) _
 exact⟨h.p.set 9 _,h.z.up (e gs hg),h.r.keep (e gs hg),fun q h1 h2 h3=>(e q h1).trans (h.k q h1 h2 h3),Nat.le_trans h.s hbel.size,⟨hbel.os.trans h.o.1,hbel.tape.trans h.o.2.1,hbel.output.trans h.o.2.2⟩⟩
set_option maxRecDepth 20000 in
theorem put5L_any (c0 c2:Int) (r3 gf n1 kf gb n2 kb mb gq f3 n4:Nat) (lo st:Int) (w0 W:World) (P gs room first:Nat) (L its:List R5) (a:Option Addr) (n c:Nat)
  (hP:blk W P (liL c0 room c2 r3 gf n1 kf gb n2 kb mb gs first L.length gq f3 n4 lo st) 157) (hg:gs≠P) (hrow:rowZ W gs (room*5)) (hgl:gs<W.heap.size) (hring:ring5 w0 W gs room first L)
  (hf:first<room) (hL:L.length≤room) (hroom:room≤1000) (hits:items5 w0 W P gs a n c its) (hn:n≤1048576) (t:Nat) (ht:t=min (room-L.length) n) :
  Calls Tryz.prog 161 #[.pointer (some ⟨P,7,none⟩),.slice a n c] W fun o w'=>o = .returned (.int .i64 (t:Int))∧pt5L c0 c2 r3 gf n1 kf gb n2 kb mb gq f3 n4 lo st w0 W w' P gs room first (L++its.take t) (L.length+t):=by
 have HF:Hid (Calls Tryz.prog 159 #[.pointer (some ⟨P,7,none⟩)] W fun o w'=>o = .returned (.int .i64 ((room-L.length:Nat):Int))∧Below W.heap.size W w'):=free5L W P _ room room L.length (hP.cell 7 _ rfl) (hP.cell 9 _ rfl) hL (by omega)
 have HP0:Hid (pt5L c0 c2 r3 gf n1 kf gb n2 kb mb gq f3 n4 lo st w0 W W P gs room first L L.length):=⟨hP,hrow,hring,fun _ _ _ _=>rfl,Nat.le_refl _,⟨rfl,rfl,rfl⟩⟩
 have hcp:=hits.cap
 have hmin:min ((room-L.length:Nat):Int) (n:Int)=(t:Int):=by omega
 have hmax:max (t:Int) 0=(t:Int):=by omega
 have htn:t≤n:=by omega
 have HTR:Hid (L.length+t≤room):=by show _≤_;omega
 have HIT:Hid (items5 w0 W P gs a n c its):=hits
 have HR:Hid (room≤1000∧first<room):=⟨hroom,hf⟩
 have HG:Hid (gs≠P∧gs<W.heap.size):=⟨hg,hgl⟩
 clear hP hrow hgl hring hits ht hroom hL hg;generalize hfr:((room-L.length:Nat):Int)=fr at *;clear hfr;have hna:a=none∨∃ ad,a=some ad:=by cases a <;> simp
 have hall:Hid (∀ ad,a=some ad→ad.spot=none∨True):=fun _ _=>Or.inr trivial
 clear hall;by_cases hnil:its=[]
 ·have ht0:t=0:=by have:=HIT.out.len;rw[hnil] at this;simp at this;omega
  have hn0:n=0:=by have:=HIT.out.len;rw[hnil] at this;simpa using this
  subst ht0;subst hn0;subst hnil;clear HIT;have hmin0:min fr 0=0:=by simpa using hmin
  clear hmin hmax;rcases hna with rfl|⟨ad,rfl⟩
  ·go_enter Tryz.func161,Tryz.ntmps161
   go_wp2_with fail;refine HF.out.mono ?_
   rintro o w1 ⟨rfl,hb1⟩;have H1:Hid (pt5L c0 c2 r3 gf n1 kf gb n2 kb mb gq f3 n4 lo st w0 W w1 P gs room first L L.length):=HP0.out.below HG.out.2 hb1
   clear hb1;go_wp2_with fail;go_loopw [17] (fun i wr=>i = .int .i64 0∧wr=w1) (fun _ _=>0)
   case atStart=>exact⟨rfl,rfl⟩
   case round=>
    obtain⟨rfl,rfl⟩:=hrel
    go_wp2
    go_ret;refine⟨rfl,?_⟩
    simpa using H1.out
  ·go_enter Tryz.func161,Tryz.ntmps161
   go_wp2_with fail;refine HF.out.mono ?_
   rintro o w1 ⟨rfl,hb1⟩;have H1:Hid (pt5L c0 c2 r3 gf n1 kf gb n2 kb mb gq f3 n4 lo st w0 W w1 P gs room first L L.length):=HP0.out.below HG.out.2 hb1
   clear hb1;go_wp2_with fail;go_loopw [17] (fun i wr=>i = .int .i64 0∧wr=w1) (fun _ _=>0)
   case atStart=>exact⟨rfl,rfl⟩
   case round=>
    obtain⟨rfl,rfl⟩:=hrel
    go_wp2
    go_ret;refine⟨rfl,?_⟩
    simpa using H1.out
 ·obtain⟨g,off,rfl,hgP,hggs,hglt,hc⟩:=HIT.out.cells hnil
  have HC:Hid (∀ j (h:j<its.length),∃ ao m c',W.rangeAt g (off+j*5) (f5 its[j] ao m c')∧isBytes w0 ao m c' its[j].l):=hc
  have HGG:Hid (g≠P∧g≠gs∧g<W.heap.size):=⟨hgP,hggs,hglt⟩
  clear hc hgP hggs hglt hna;go_enter Tryz.func161,Tryz.ntmps161
  go_wp2_with fail;refine HF.out.mono ?_
  rintro o w1 ⟨rfl,hb1⟩;have H1:Hid (pt5L c0 c2 r3 gf n1 kf gb n2 kb mb gq f3 n4 lo st w0 W w1 P gs room first L L.length):=HP0.out.below HG.out.2 hb1
  clear hb1 HF;go_wp2_with fail;clear hmin hmax;go_loopw [17] (fun i wr=>∃ k:Nat,k≤t∧i = .int .i64 (k:Int)∧pt5L c0 c2 r3 gf n1 kf gb n2 kb mb gq f3 n4 lo st w0 W wr P gs room first (L++its.take k) (L.length+k)) (fun i _=>t-(intOf i).toNat)
  case atStart=>exact⟨0,Nat.zero_le _,rfl,by simpa using H1.out⟩
  case round=>
   obtain⟨k,hk,rfl,hp⟩:=hrel
   have HPT:Hid (pt5L c0 c2 r3 gf n1 kf gb n2 kb mb gq f3 n4 lo st w0 W wr P gs room first (L++its.take k) (L.length+k)):=hp
   clear hp;by_cases hlt:k<t
   ·have hkl:k<its.length:=by have:=HIT.out.len;omega
    obtain⟨ao,m,c',hx1,hx2⟩:=HC.out k hkl
    have hge:wr.heap[g]?=W.heap[g]?:=HPT.out.k g HGG.out.1 HGG.out.2.1 HGG.out.2.2
    have hx1':wr.rangeAt g (off+k*5) (f5 its[k] ao m c'):=fun j v hv=>(cell_same hge _).trans (hx1 j v hv)
    have hML:(L++its.take k).length=L.length+k:=by rw[List.length_append,List.length_take];omega
    have HST:Hid (∀ X C,pt5L c0 c2 r3 gf n1 kf gb n2 kb mb gq f3 n4 lo st w0 W X P gs room first (L++its.take k) C→pt5L c0 c2 r3 gf n1 kf gb n2 kb mb gq f3 n4 lo st w0 W (X.setCells gs ((first+(L.length+k)) % room*5) (f5 its[k] ao m c')) P gs room first (L++its.take (k+1)) C):=by
     intro X C hX;have:=hX.store HG.out.1 HR.out.2 (by rw[hML];have:=HTR.out;omega) its[k] ao m c' hx2
     rw[hML,List.append_assoc,← List.take_succ_eq_append_getElem hkl] at this
     exact this
    obtain⟨b,hb⟩ : ∃ b,its[k]=b:=⟨_,rfl⟩
    rw[hb] at hx1' HST
    obtain⟨e,i,r,d,l⟩:=b
    have HRG:Hid (wr.rangeAt g (off+k*5) [.bool e,.int .u32 (i:Int),.bool r,.int .i64 d,.slice ao m c']):=hx1'
    have HP3:Hid (blk (wr.alloc (.cells #[.bool e,.int .u32 (i:Int),.bool r,.int .i64 d,.slice ao m c'] 55)) P (liL c0 room c2 r3 gf n1 kf gb n2 kb mb gs first (L.length+k) gq f3 n4 lo st) 157∧blk (wr.alloc (.cells #[.bool e,.int .u32 (i:Int),.bool r,.int .i64 d,.slice ao m c'] 55)) wr.heap.size [.bool e,.int .u32 (i:Int),.bool r,.int .i64 d,.slice ao m c'] 55):=⟨HPT.out.p.alloc _,blk.new wr _ 55⟩
    have HT3:Hid (pt5L c0 c2 r3 gf n1 kf gb n2 kb mb gq f3 n4 lo st w0 W (wr.alloc (.cells #[.bool e,.int .u32 (i:Int),.bool r,.int .i64 d,.slice ao m c'] 55)) P gs room first (L++its.take k) (L.length+k)):=HPT.out.below HG.out.2 ((Below.refl _ _).alloc (Nat.le_refl _) _)
    have hmod:Int.tmod ((first:Int)+((L.length+k:Nat):Int)) (room:Int)=(((first+(L.length+k)) % room:Nat):Int):=by
     rw[← Int.natCast_add];exact Int.ofNat_tmod _ _
    have hzr:(first+(L.length+k)) % room<room:=Nat.mod_lt _ (by have:=HR.out;omega)
    have hZN:(first+(L.length+k)) % room*5+5≤room*5:=by
     have:((first+(L.length+k)) % room+1)*5≤room*5:=Nat.mul_le_mul_right _ hzr
     omega
    have hroom0:¬ (room:Int)=0:=by have:=HR.out;omega
    have hC1:L.length+k+1=L.length+(k+1):=by omega
    have HC1:Hid (L.length+k+1=L.length+(k+1)):=hC1
    have hr1:=HR.out.1
    have hf1:=HR.out.2
    have hC2:=HTR.out
    have hCr:L.length+k≤1000:=by omega
    clear hx1 hx2 hge hx1' hML hb hC1 hC2;generalize hCC:L.length+k=C at *;clear hCC;generalize hZZ:(first+C) % room=Z at *;clear hZZ;go_wp2_with (first
     | (refine wpList_load_mid (P:=Tryz.prog) rfl 55 _ rfl g (off+k*5) rfl _ _ HRG.out Tryz.underlying55 rfl sz93 ?_))
    have HZT:Hid (World.there (World.drew (wr.alloc (.cells #[.bool e,.int .u32 (i:Int),.bool r,.int .i64 d,.slice ao m c'] 55))) gs (Z*5) 5):=HT3.out.z.there (Z*5) 5 hZN
    clear hZN HRG;have hPBg:wr.heap.size≠gs:=by have:=HG.out.2;have:=HPT.out.s;omega
    have HPG:Hid (wr.heap.size≠gs):=hPBg
    clear hPBg;generalize hPB:wr.heap.size=PB at *;clear hPB;generalize hW3:wr.alloc (.cells #[.bool e,.int .u32 (i:Int),.bool r,.int .i64 d,.slice ao m c'] 55)=W3 at *;clear hW3 HPT;refine wp_region_held (S:=(fun X=>X.cell? ⟨P,7,none⟩=some (.slice (some ⟨gs,0,none⟩) room room)∧X.cell? ⟨P,8,none⟩=some (.int .i64 (first:Int))∧X.cell? ⟨P,9,none⟩=some (.int .i64 (C:Int))∧X.rangeAt PB 0 [.bool e,.int .u32 (i:Int),.bool r,.int .i64 d,.slice ao m c'])) (by kernel_rfl) ?_
    have hS:(fun X=>X.cell? ⟨P,7,none⟩=some (.slice (some ⟨gs,0,none⟩) room room)∧X.cell? ⟨P,8,none⟩=some (.int .i64 (first:Int))∧X.cell? ⟨P,9,none⟩=some (.int .i64 (C:Int))∧X.rangeAt PB 0 [.bool e,.int .u32 (i:Int),.bool r,.int .i64 d,.slice ao m c']) (World.drew W3):=⟨(HP3.out.1.cell 7 _ rfl),(HP3.out.1.cell 8 _ rfl),(HP3.out.1.cell 9 _ rfl),HP3.out.2.load⟩
    simp only[] at hS
    refine wV 0 (.pointer (some ⟨P,7,none⟩)) rfl (by kernel_rfl) ?_ hS ?_ fun _ _ _ h=>h
    ·intro X hSw;clear hS;go_simp
    simp only[Act.put,aA,aB,aC,aD,aE]
    refine wV 1 (.pointer (some ⟨P,7,none⟩)) rfl (by kernel_rfl) ?_ hS ?_ fun _ _ _ h=>h
    ·intro X hSw;clear hS;go_simp
    simp only[Act.put,aA,aB,aC,aD,aE,aF];refine wV 2 (.pointer (some ⟨P,7,none⟩)) rfl (by kernel_rfl) ?_ hS ?_ fun _ _ _ h=>h
    ·intro X hSw;clear hS;go_simp
    simp only[Act.put,aA,aB,aC,aD,aE,aF];refine wV 3 (.slice (some ⟨gs,0,none⟩) room room) rfl (by kernel_rfl) ?_ hS ?_ fun _ _ _ h=>h
    ·intro X hSw;clear hS;go_simp
    simp only[Act.put,aA,aB,aC,aD,aE,aF];refine wV 4 (.pointer (some ⟨P,7,none⟩)) rfl (by kernel_rfl) ?_ hS ?_ fun _ _ _ h=>h
    ·intro X hSw;clear hS;go_simp
    simp only[Act.put,aA,aB,aC,aD,aE,aF];refine wV 5 (.pointer (some ⟨P,7,none⟩)) rfl (by kernel_rfl) ?_ hS ?_ fun _ _ _ h=>h
    ·intro X hSw;clear hS;go_simp
    simp only[Act.put,aA,aB,aC,aD,aE,aF];refine wV 6 (.pointer (some ⟨P,8,none⟩)) rfl (by kernel_rfl) ?_ hS ?_ fun _ _ _ h=>h
    ·intro X hSw;clear hS;go_simp
    simp only[Act.put,aA,aB,aC,aD,aE,aF];refine wV 7 (.int .i64 (first:Int)) rfl (by kernel_rfl) ?_ hS ?_ fun _ _ _ h=>h
    ·intro X hSw;clear hS;go_simp
    simp only[Act.put,aA,aB,aC,aD,aE,aF];refine wV 8 (.pointer (some ⟨P,7,none⟩)) rfl (by kernel_rfl) ?_ hS ?_ fun _ _ _ h=>h
    ·intro X hSw;clear hS;go_simp
    simp only[Act.put,aA,aB,aC,aD,aE,aF];refine wV 9 (.pointer (some ⟨P,7,none⟩)) rfl (by kernel_rfl) ?_ hS ?_ fun _ _ _ h=>h
    ·intro X hSw;clear hS;go_simp
    simp only[Act.put,aA,aB,aC,aD,aE,aF];refine wV 10 (.pointer (some ⟨P,9,none⟩)) rfl (by kernel_rfl) ?_ hS ?_ fun _ _ _ h=>h
    ·intro X hSw;clear hS;go_simp
    simp only[Act.put,aA,aB,aC,aD,aE,aF];refine wV 11 (.int .i64 (C:Int)) rfl (by kernel_rfl) ?_ hS ?_ fun _ _ _ h=>h
    ·intro X hSw;clear hS;go_simp
    simp only[Act.put,aA,aB,aC,aD,aE,aF];refine wV 12 (.int .i64 ((first:Int)+(C:Int))) rfl (by kernel_rfl) ?_ hS ?_ fun _ _ _ h=>h
    ·intro X hSw;clear hS;go_simp;rw[IntKind.wrap_i64];omega
    simp only[Act.put,aA,aB,aC,aD,aE,aF];refine wV 13 (.pointer (some ⟨P,7,none⟩)) rfl (by kernel_rfl) ?_ hS ?_ fun _ _ _ h=>h
    ·intro X hSw;clear hS;go_simp
    simp only[Act.put,aA,aB,aC,aD,aE,aF];refine wV 14 (.pointer (some ⟨P,7,none⟩)) rfl (by kernel_rfl) ?_ hS ?_ fun _ _ _ h=>h
    ·intro X hSw;clear hS;go_simp
    simp only[Act.put,aA,aB,aC,aD,aE,aF];refine wV 15 (.pointer (some ⟨P,7,none⟩)) rfl (by kernel_rfl) ?_ hS ?_ fun _ _ _ h=>h
    ·intro X hSw;clear hS;go_simp
    simp only[Act.put,aA,aB,aC,aD,aE,aF];refine wV 16 (.slice (some ⟨gs,0,none⟩) room room) rfl (by kernel_rfl) ?_ hS ?_ fun _ _ _ h=>h
    ·intro X hSw;clear hS;go_simp
    simp only[Act.put,aA,aB,aC,aD,aE,aF];refine wV 17 (.int .i64 (room:Int)) rfl (by kernel_rfl) ?_ hS ?_ fun _ _ _ h=>h
    ·intro X hSw;clear hS;go_simp
    simp only[Act.put,aA,aB,aC,aD,aE,aF];refine wV 18 (.int .i64 (Z:Int)) rfl (by kernel_rfl) ?_ hS ?_ fun _ _ _ h=>h
    ·intro X hSw;clear hS;go_simp;omega
    simp only[Act.put,aA,aB,aC,aD,aE,aF];refine wU 19 (.agg #[.bool e,.int .u32 (i:Int),.bool r,.int .i64 d,.slice ao m c']) rfl (by kernel_rfl) (yieldsIf_load_mid (by rfl) 55 (.tmp 7) rfl PB 0 rfl [.bool e,.int .u32 (i:Int),.bool r,.int .i64 d,.slice ao m c'] _ (fun X h=>h.2.2.2) Tryz.underlying55 rfl sz93) hS ?_ fun _ _ _ h=>h
    simp only[Act.put,aA,aB,aC,aD,aE,aF];refine wV 20 (.pointer (some ⟨gs,Z*5,none⟩)) rfl (by kernel_rfl) ?_ hS ?_ fun _ _ _ h=>h
    ·intro X hSw;clear hS;go_simp
    simp only[Act.put,aA,aB,aC,aD,aE,aF];refine wpAnyH_all (rs:=[21]) (by kernel_rfl) (by simp) ?_
    refine AllReadyH.cons rfl (fun K hK=>?_) AllReadyH.nil
    rw[if_pos (by rfl)]
    refine wp_store_mid 55 (.tmp 41) (.tmp 40) rfl gs (Z*5) _ rfl rfl HZT.out sz93 (one5 _ _ _ _ _ _ _) ?_
    simp only[Act.put,aD,aE,aF]
    have HT4:Hid (pt5L c0 c2 r3 gf n1 kf gb n2 kb mb gq f3 n4 lo st w0 W (World.setCells (World.drew W3) gs (Z*5) [.bool e,.int .u32 (i:Int),.bool r,.int .i64 d,.slice ao m c']) P gs room first (L++its.take (k+1)) C):=HST.out _ _ (HT3.out.below HG.out.2 (Below.refl _ _).drew)
    have HP4:Hid (blk (World.setCells (World.drew W3) gs (Z*5) [.bool e,.int .u32 (i:Int),.bool r,.int .i64 d,.slice ao m c']) PB [.bool e,.int .u32 (i:Int),.bool r,.int .i64 d,.slice ao m c'] 55):=(show blk (World.drew W3) PB [.bool e,.int .u32 (i:Int),.bool r,.int .i64 d,.slice ao m c'] 55 from HP3.out.2).other HPG.out _ _
    refine hK.out _ (World.setCells (World.drew W3) gs (Z*5) [.bool e,.int .u32 (i:Int),.bool r,.int .i64 d,.slice ao m c']) ⟨HT4.out.p.cell 7 _ rfl,HT4.out.p.cell 8 _ rfl,HT4.out.p.cell 9 _ rfl,HP4.out.load⟩ (fun hS2=>?_)
    clear hS hK K;refine wpAnyH_done (by kernel_rfl) ?_ _
    clear hS2 hmod;generalize hW5:World.setCells (World.drew W3) gs (Z*5) _=w5
    have HT5:Hid (pt5L c0 c2 r3 gf n1 kf gb n2 kb mb gq f3 n4 lo st w0 W w5 P gs room first (L++its.take (k+1)) C):=(hW5 ▸ HT4.out)
    clear hW5 HT4 HP4;have z2:=HT5.out.p.cell 9 _ rfl
    have z2f:=HT5.out.p.free 9
    go_wp2
    go_roundw
    case rel=>
     refine⟨k+1,by omega,by go_num,?_⟩
     rw[← HC1.out]
     exact HT5.out.count HG.out.1 (C+1)
    case measure=>simp[intOf];omega
   ·have hkt:k=t:=by omega
    subst hkt;go_wp2
    go_ret;exact⟨rfl,HPT.out⟩
theorem free8L (W:World) (P:Nat) (a:Option Addr) (n cap:Nat) (count:Nat) (y0:W.cell? ⟨P,10,none⟩=some (.slice a n cap)) (y2:W.cell? ⟨P,12,none⟩=some (.int .i64 (count:Int))) (hc:count≤n) (hn:n≤1048576) :
  Calls Tryz.prog 191 #[.pointer (some ⟨P,10,none⟩)] W fun o w'=>o = .returned (.int .i64 ((n-count:Nat):Int))∧Below W.heap.size W w':=by
 go_enter Tryz.func191,Tryz.ntmps191
 go_wp2
 go_region
 all_goals
  go_wp2
  go_ret;refine⟨ret_int ?_,(Below.refl _ _).drew⟩
  omega
structure pt8L (c0 c2:Int) (r1 gf n1 kf gb n2 kb mb gr f1 n3:Nat) (lo st:Int) (w0 W wr:World) (P gs room first:Nat) (M:List R8) (C:Nat):Prop where
 p:blk wr P (liL c0 r1 c2 room gf n1 kf gb n2 kb mb gr f1 n3 gs first C lo st) 157
 z:rowZ wr gs (room*8)
 r:ring8 w0 wr gs room first M
 k:∀ b,b≠P→b≠gs→b<W.heap.size→wr.heap[b]?=W.heap[b]?
 s:W.heap.size≤wr.heap.size
 o:wr.os=W.os∧wr.tape=W.tape∧wr.output=W.output
theorem pt8L.below {c0 c2:Int} {r1 gf n1 kf gb n2 kb mb gr f1 n3:Nat} {lo st:Int} {w0 W wr wr':World} {P gs room first:Nat} {M:List R8} {C:Nat} (h:pt8L c0 c2 r1 gf n1 kf gb n2 kb mb gr f1 n3 lo st w0 W wr P gs room first M C) (hg:gs<W.heap.size) (hb:Below wr.heap.size wr wr'):pt8L c0 c2 r1 gf n1 kf gb n2 kb mb gr f1 n3 lo st w0 W wr' P gs room first M C:=
 ⟨h.p.below hb,h.z.below hb (Nat.lt_of_lt_of_le hg h.s),h.r.keep (hb.block _ (Nat.lt_of_lt_of_le hg h.s)),fun b h1 h2 h3=>(hb.block _ (Nat.lt_of_lt_of_le h3 h.s)).trans (h.k b h1 h2 h3),Nat.le_trans h.s hb.size,⟨hb.os.trans h.o.1,hb.tape.trans h.o.2.1,hb.output.trans h.o.2.2⟩⟩
theorem pt8L.store {c0 c2:Int} {r1 gf n1 kf gb n2 kb mb gr f1 n3:Nat} {lo st:Int} {w0 W wr:World} {P gs room first:Nat} {M:List R8} {C:Nat} (h:pt8L c0 c2 r1 gf n1 kf gb n2 kb mb gr f1 n3 lo st w0 W wr P gs room first M C) (hg:gs≠P) (hf:first<room) (hL:M.length<room) (b:R8) (ao:Option Addr) (m c:Nat) (hb:isBytes w0 ao m c b.l) :
  pt8L c0 c2 r1 gf n1 kf gb n2 kb mb gr f1 n3 lo st w0 W (wr.setCells gs ((first+M.length) % room*8) (f8 b ao m c)) P gs room first (M++[b]) C:=by
 have hz:(first+M.length) % room<room:=Nat.mod_lt _ (by omega)
 have hzz:(first+M.length) % room*8+8≤room*8:=by
  have:((first+M.length) % room+1)*8≤room*8:=Nat.mul_le_mul_right _ hz
  omega
 refine⟨h.p.other (fun e=>hg e.symm) _ _,by rw[setCells_row];exact h.z.put _ _ hzz,h.r.store hf hL h.z b ao m c hb,fun q h1 h2 h3=>(setCells_other gs q h2 _ _ _).trans (h.k q h1 h2 h3),by rw[setCells_size];exact h.s,?_⟩
 have hbel:=setCells_below (B:=0) (Nat.zero_le gs) ((first+M.length) % room*8) (f8 b ao m c) (Below.refl 0 wr)
 exact⟨hbel.os.trans h.o.1,hbel.tape.trans h.o.2.1,hbel.output.trans h.o.2.2⟩
theorem pt8L.count {c0 c2:Int} {r1 gf n1 kf gb n2 kb mb gr f1 n3:Nat} {lo st:Int} {w0 W wr:World} {P gs room first:Nat} {M:List R8} {C:Nat} (h:pt8L c0 c2 r1 gf n1 kf gb n2 kb mb gr f1 n3 lo st w0 W wr P gs room first M C) (hg:gs≠P) (C':Nat):pt8L c0 c2 r1 gf n1 kf gb n2 kb mb gr f1 n3 lo st w0 W (wr.setCell ⟨P,12,none⟩ (.int .i64 (C':Int))) P gs room first M C':=by
 have e:∀ b,b≠P→(wr.setCell ⟨P,12,none⟩ (.int .i64 (C':Int))).heap[b]?=wr.heap[b]?:=fun b hb=>heap_setCell_other _ _ _ _ (by exact hb)
 have hbel:Below 0 wr (wr.setCell ⟨P,12,none⟩ (.int .i64 (C':Int))):=(Below.refl 0 wr).setCell (Nat.zero_le _) _
 exact⟨h.p.set 12 _,h.z.up (e gs hg),h.r.keep (e gs hg),fun q h1 h2 h3=>(e q h1).trans (h.k q h1 h2 h3),Nat.le_trans h.s hbel.size,⟨hbel.os.trans h.o.1,hbel.tape.trans h.o.2.1,hbel.output.trans h.o.2.2⟩⟩
set_option maxRecDepth 20000 in
theorem put8L_any (c0 c2:Int) (r1 gf n1 kf gb n2 kb mb gr f1 n3:Nat) (lo st:Int) (w0 W:World) (P gs room first:Nat) (L its:List R8) (a:Option Addr) (n c:Nat)
  (hP:blk W P (liL c0 r1 c2 room gf n1 kf gb n2 kb mb gr f1 n3 gs first L.length lo st) 157) (hg:gs≠P) (hrow:rowZ W gs (room*8)) (hgl:gs<W.heap.size) (hring:ring8 w0 W gs room first L)
  (hf:first<room) (hL:L.length≤room) (hroom:room≤1000) (hits:items8 w0 W P gs a n c its) (hn:n≤1048576) (t:Nat) (ht:t=min (room-L.length) n) :
  Calls Tryz.prog 146 #[.pointer (some ⟨P,10,none⟩),.slice a n c] W fun o w'=>o = .returned (.int .i64 (t:Int))∧pt8L c0 c2 r1 gf n1 kf gb n2 kb mb gr f1 n3 lo st w0 W w' P gs room first (L++its.take t) (L.length+t):=by
 have HF:Hid (Calls Tryz.prog 191 #[.pointer (some ⟨P,10,none⟩)] W fun o w'=>o = .returned (.int .i64 ((room-L.length:Nat):Int))∧Below W.heap.size W w'):=free8L W P _ room room L.length (hP.cell 10 _ rfl) (hP.cell 12 _ rfl) hL (by omega)
 have HP0:Hid (pt8L c0 c2 r1 gf n1 kf gb n2 kb mb gr f1 n3 lo st w0 W W P gs room first L L.length):=⟨hP,hrow,hring,fun _ _ _ _=>rfl,Nat.le_refl _,⟨rfl,rfl,rfl⟩⟩
 have hcp:=hits.cap
 have hmin:min ((room-L.length:Nat):Int) (n:Int)=(t:Int):=by omega
 have hmax:max (t:Int) 0=(t:Int):=by omega
 have htn:t≤n:=by omega
 have HTR:Hid (L.length+t≤room):=by show _≤_;omega
 have HIT:Hid (items8 w0 W P gs a n c its):=hits
 have HR:Hid (room≤1000∧first<room):=⟨hroom,hf⟩
 have HG:Hid (gs≠P∧gs<W.heap.size):=⟨hg,hgl⟩
 clear hP hrow hgl hring hits ht hroom hL hg;generalize hfr:((room-L.length:Nat):Int)=fr at *;clear hfr;have hna:a=none∨∃ ad,a=some ad:=by cases a <;> simp
 have hall:Hid (∀ ad,a=some ad→ad.spot=none∨True):=fun _ _=>Or.inr trivial
 clear hall;by_cases hnil:its=[]
 ·have ht0:t=0:=by have:=HIT.out.len;rw[hnil] at this;simp at this;omega
  have hn0:n=0:=by have:=HIT.out.len;rw[hnil] at this;simpa using this
  subst ht0;subst hn0;subst hnil;clear HIT;have hmin0:min fr 0=0:=by simpa using hmin
  clear hmin hmax;rcases hna with rfl|⟨ad,rfl⟩
  ·go_enter Tryz.func146,Tryz.ntmps146
   go_wp2_with fail;refine HF.out.mono ?_
   rintro o w1 ⟨rfl,hb1⟩;have H1:Hid (pt8L c0 c2 r1 gf n1 kf gb n2 kb mb gr f1 n3 lo st w0 W w1 P gs room first L L.length):=HP0.out.below HG.out.2 hb1
   clear hb1;go_wp2_with fail;go_loopw [17] (fun i wr=>i = .int .i64 0∧wr=w1) (fun _ _=>0)
   case atStart=>exact⟨rfl,rfl⟩
   case round=>
    obtain⟨rfl,rfl⟩:=hrel
    go_wp2
    go_ret;refine⟨rfl,?_⟩
    simpa using H1.out
  ·go_enter Tryz.func146,Tryz.ntmps146
   go_wp2_with fail;refine HF.out.mono ?_
   rintro o w1 ⟨rfl,hb1⟩;have H1:Hid (pt8L c0 c2 r1 gf n1 kf gb n2 kb mb gr f1 n3 lo st w0 W w1 P gs room first L L.length):=HP0.out.below HG.out.2 hb1
   clear hb1;go_wp2_with fail;go_loopw [17] (fun i wr=>i = .int .i64 0∧wr=w1) (fun _ _=>0)
   case atStart=>exact⟨rfl,rfl⟩
   case round=>
    obtain⟨rfl,rfl⟩:=hrel
    go_wp2
    go_ret;refine⟨rfl,?_⟩
    simpa using H1.out
 ·obtain⟨g,off,rfl,hgP,hggs,hglt,hc⟩:=HIT.out.cells hnil
  have HC:Hid (∀ j (h:j<its.length),∃ ao m c',W.rangeAt g (off+j*8) (f8 its[j] ao m c')∧isBytes w0 ao m c' its[j].l):=hc
  have HGG:Hid (g≠P∧g≠gs∧g<W.heap.size):=⟨hgP,hggs,hglt⟩
  clear hc hgP hggs hglt hna;go_enter Tryz.func146,Tryz.ntmps146
  go_wp2_with fail;refine HF.out.mono ?_
  rintro o w1 ⟨rfl,hb1⟩;have H1:Hid (pt8L c0 c2 r1 gf n1 kf gb n2 kb mb gr f1 n3 lo st w0 W w1 P gs room first L L.length):=HP0.out.below HG.out.2 hb1
  clear hb1 HF;go_wp2_with fail;clear hmin hmax;go_loopw [17] (fun i wr=>∃ k:Nat,k≤t∧i = .int .i64 (k:Int)∧pt8L c0 c2 r1 gf n1 kf gb n2 kb mb gr f1 n3 lo st w0 W wr P gs room first (L++its.take k) (L.length+k)) (fun i _=>t-(intOf i).toNat)
  case atStart=>exact⟨0,Nat.zero_le _,rfl,by simpa using H1.out⟩
  case round=>
   obtain⟨k,hk,rfl,hp⟩:=hrel
   have HPT:Hid (pt8L c0 c2 r1 gf n1 kf gb n2 kb mb gr f1 n3 lo st w0 W wr P gs room first (L++its.take k) (L.length+k)):=hp
   clear hp;by_cases hlt:k<t
   ·have hkl:k<its.length:=by have:=HIT.out.len;omega
    obtain⟨ao,m,c',hx1,hx2⟩:=HC.out k hkl
    have hge:wr.heap[g]?=W.heap[g]?:=HPT.out.k g HGG.out.1 HGG.out.2.1 HGG.out.2.2
    have hx1':wr.rangeAt g (off+k*8) (f8 its[k] ao m c'):=fun j v hv=>(cell_same hge _).trans (hx1 j v hv)
    have hML:(L++its.take k).length=L.length+k:=by rw[List.length_append,List.length_take];omega
    have HST:Hid (∀ X C,pt8L c0 c2 r1 gf n1 kf gb n2 kb mb gr f1 n3 lo st w0 W X P gs room first (L++its.take k) C→pt8L c0 c2 r1 gf n1 kf gb n2 kb mb gr f1 n3 lo st w0 W (X.setCells gs ((first+(L.length+k)) % room*8) (f8 its[k] ao m c')) P gs room first (L++its.take (k+1)) C):=by
     intro X C hX;have:=hX.store HG.out.1 HR.out.2 (by rw[hML];have:=HTR.out;omega) its[k] ao m c' hx2
     rw[hML,List.append_assoc,← List.take_succ_eq_append_getElem hkl] at this
     exact this
    obtain⟨b,hb⟩ : ∃ b,its[k]=b:=⟨_,rfl⟩
    rw[hb] at hx1' HST
    obtain⟨x,y,z,e,i,r,d,l⟩:=b
    have HRG:Hid (wr.rangeAt g (off+k*8) [.int .i64 x,.int .i64 y,.int .i64 z,.bool e,.int .u32 (i:Int),.bool r,.int .i64 d,.slice ao m c']):=hx1'
    have HP3:Hid (blk (wr.alloc (.cells #[.int .i64 x,.int .i64 y,.int .i64 z,.bool e,.int .u32 (i:Int),.bool r,.int .i64 d,.slice ao m c'] 67)) P (liL c0 r1 c2 room gf n1 kf gb n2 kb mb gr f1 n3 gs first (L.length+k) lo st) 157∧blk (wr.alloc (.cells #[.int .i64 x,.int .i64 y,.int .i64 z,.bool e,.int .u32 (i:Int),.bool r,.int .i64 d,.slice ao m c'] 67)) wr.heap.size [.int .i64 x,.int .i64 y,.int .i64 z,.bool e,.int .u32 (i:Int),.bool r,.int .i64 d,.slice ao m c'] 67):=⟨HPT.out.p.alloc _,blk.new wr _ 67⟩
    have HT3:Hid (pt8L c0 c2 r1 gf n1 kf gb n2 kb mb gr f1 n3 lo st w0 W (wr.alloc (.cells #[.int .i64 x,.int .i64 y,.int .i64 z,.bool e,.int .u32 (i:Int),.bool r,.int .i64 d,.slice ao m c'] 67)) P gs room first (L++its.take k) (L.length+k)):=HPT.out.below HG.out.2 ((Below.refl _ _).alloc (Nat.le_refl _) _)
    have hmod:Int.tmod ((first:Int)+((L.length+k:Nat):Int)) (room:Int)=(((first+(L.length+k)) % room:Nat):Int):=by
     rw[← Int.natCast_add];exact Int.ofNat_tmod _ _
    have hzr:(first+(L.length+k)) % room<room:=Nat.mod_lt _ (by have:=HR.out;omega)
    have hZN:(first+(L.length+k)) % room*8+8≤room*8:=by
     have:((first+(L.length+k)) % room+1)*8≤room*8:=Nat.mul_le_mul_right _ hzr
     omega
    have hroom0:¬ (room:Int)=0:=by have:=HR.out;omega
    have hC1:L.length+k+1=L.length+(k+1):=by omega
    have HC1:Hid (L.length+k+1=L.length+(k+1)):=hC1
    have hr1:=HR.out.1
    have hf1:=HR.out.2
    have hC2:=HTR.out
    have hCr:L.length+k≤1000:=by omega
    clear hx1 hx2 hge hx1' hML hb hC1 hC2;generalize hCC:L.length+k=C at *;clear hCC;generalize hZZ:(first+C) % room=Z at *;clear hZZ;go_wp2_with (first
     | (refine wpList_load_mid (P:=Tryz.prog) rfl 67 _ rfl g (off+k*8) rfl _ _ HRG.out Tryz.underlying67 rfl sz129 ?_))
    have HZT:Hid (World.there (World.drew (wr.alloc (.cells #[.int .i64 x,.int .i64 y,.int .i64 z,.bool e,.int .u32 (i:Int),.bool r,.int .i64 d,.slice ao m c'] 67))) gs (Z*8) 8):=HT3.out.z.there (Z*8) 8 hZN
    clear hZN HRG;have hPBg:wr.heap.size≠gs:=by have:=HG.out.2;have:=HPT.out.s;omega
    have HPG:Hid (wr.heap.size≠gs):=hPBg
    clear hPBg;generalize hPB:wr.heap.size=PB at *;clear hPB;generalize hW3:wr.alloc (.cells #[.int .i64 x,.int .i64 y,.int .i64 z,.bool e,.int .u32 (i:Int),.bool r,.int .i64 d,.slice ao m c'] 67)=W3 at *;clear hW3 HPT;refine wp_region_held (S:=(fun X=>X.cell? ⟨P,10,none⟩=some (.slice (some ⟨gs,0,none⟩) room room)∧X.cell? ⟨P,11,none⟩=some (.int .i64 (first:Int))∧X.cell? ⟨P,12,none⟩=some (.int .i64 (C:Int))∧X.rangeAt PB 0 [.int .i64 x,.int .i64 y,.int .i64 z,.bool e,.int .u32 (i:Int),.bool r,.int .i64 d,.slice ao m c'])) (by kernel_rfl) ?_
    have hS:(fun X=>X.cell? ⟨P,10,none⟩=some (.slice (some ⟨gs,0,none⟩) room room)∧X.cell? ⟨P,11,none⟩=some (.int .i64 (first:Int))∧X.cell? ⟨P,12,none⟩=some (.int .i64 (C:Int))∧X.rangeAt PB 0 [.int .i64 x,.int .i64 y,.int .i64 z,.bool e,.int .u32 (i:Int),.bool r,.int .i64 d,.slice ao m c']) (World.drew W3):=⟨(HP3.out.1.cell 10 _ rfl),(HP3.out.1.cell 11 _ rfl),(HP3.out.1.cell 12 _ rfl),HP3.out.2.load⟩
    simp only[] at hS
    refine wV 0 (.pointer (some ⟨P,10,none⟩)) rfl (by kernel_rfl) ?_ hS ?_ fun _ _ _ h=>h
    ·intro X hSw;clear hS;go_simp
    simp only[Act.put,aA,aB,aC,aD,aE]
    refine wV 1 (.pointer (some ⟨P,10,none⟩)) rfl (by kernel_rfl) ?_ hS ?_ fun _ _ _ h=>h
    ·intro X hSw;clear hS;go_simp
    simp only[Act.put,aA,aB,aC,aD,aE,aF];refine wV 2 (.pointer (some ⟨P,10,none⟩)) rfl (by kernel_rfl) ?_ hS ?_ fun _ _ _ h=>h
    ·intro X hSw;clear hS;go_simp
    simp only[Act.put,aA,aB,aC,aD,aE,aF];refine wV 3 (.slice (some ⟨gs,0,none⟩) room room) rfl (by kernel_rfl) ?_ hS ?_ fun _ _ _ h=>h
    ·intro X hSw;clear hS;go_simp
    simp only[Act.put,aA,aB,aC,aD,aE,aF];refine wV 4 (.pointer (some ⟨P,10,none⟩)) rfl (by kernel_rfl) ?_ hS ?_ fun _ _ _ h=>h
    ·intro X hSw;clear hS;go_simp
    simp only[Act.put,aA,aB,aC,aD,aE,aF];refine wV 5 (.pointer (some ⟨P,10,none⟩)) rfl (by kernel_rfl) ?_ hS ?_ fun _ _ _ h=>h
    ·intro X hSw;clear hS;go_simp
    simp only[Act.put,aA,aB,aC,aD,aE,aF];refine wV 6 (.pointer (some ⟨P,11,none⟩)) rfl (by kernel_rfl) ?_ hS ?_ fun _ _ _ h=>h
    ·intro X hSw;clear hS;go_simp
    simp only[Act.put,aA,aB,aC,aD,aE,aF];refine wV 7 (.int .i64 (first:Int)) rfl (by kernel_rfl) ?_ hS ?_ fun _ _ _ h=>h
    ·intro X hSw;clear hS;go_simp
    simp only[Act.put,aA,aB,aC,aD,aE,aF];refine wV 8 (.pointer (some ⟨P,10,none⟩)) rfl (by kernel_rfl) ?_ hS ?_ fun _ _ _ h=>h
    ·intro X hSw;clear hS;go_simp
    simp only[Act.put,aA,aB,aC,aD,aE,aF];refine wV 9 (.pointer (some ⟨P,10,none⟩)) rfl (by kernel_rfl) ?_ hS ?_ fun _ _ _ h=>h
    ·intro X hSw;clear hS;go_simp
    simp only[Act.put,aA,aB,aC,aD,aE,aF];refine wV 10 (.pointer (some ⟨P,12,none⟩)) rfl (by kernel_rfl) ?_ hS ?_ fun _ _ _ h=>h
    ·intro X hSw;clear hS;go_simp
    simp only[Act.put,aA,aB,aC,aD,aE,aF];refine wV 11 (.int .i64 (C:Int)) rfl (by kernel_rfl) ?_ hS ?_ fun _ _ _ h=>h
    ·intro X hSw;clear hS;go_simp
    simp only[Act.put,aA,aB,aC,aD,aE,aF];refine wV 12 (.int .i64 ((first:Int)+(C:Int))) rfl (by kernel_rfl) ?_ hS ?_ fun _ _ _ h=>h
    ·intro X hSw;clear hS;go_simp;rw[IntKind.wrap_i64];omega
    simp only[Act.put,aA,aB,aC,aD,aE,aF];refine wV 13 (.pointer (some ⟨P,10,none⟩)) rfl (by kernel_rfl) ?_ hS ?_ fun _ _ _ h=>h
    ·intro X hSw;clear hS;go_simp
    simp only[Act.put,aA,aB,aC,aD,aE,aF];refine wV 14 (.pointer (some ⟨P,10,none⟩)) rfl (by kernel_rfl) ?_ hS ?_ fun _ _ _ h=>h
    ·intro X hSw;clear hS;go_simp
    simp only[Act.put,aA,aB,aC,aD,aE,aF];refine wV 15 (.pointer (some ⟨P,10,none⟩)) rfl (by kernel_rfl) ?_ hS ?_ fun _ _ _ h=>h
    ·intro X hSw;clear hS;go_simp
    simp only[Act.put,aA,aB,aC,aD,aE,aF];refine wV 16 (.slice (some ⟨gs,0,none⟩) room room) rfl (by kernel_rfl) ?_ hS ?_ fun _ _ _ h=>h
    ·intro X hSw;clear hS;go_simp
    simp only[Act.put,aA,aB,aC,aD,aE,aF];refine wV 17 (.int .i64 (room:Int)) rfl (by kernel_rfl) ?_ hS ?_ fun _ _ _ h=>h
    ·intro X hSw;clear hS;go_simp
    simp only[Act.put,aA,aB,aC,aD,aE,aF];refine wV 18 (.int .i64 (Z:Int)) rfl (by kernel_rfl) ?_ hS ?_ fun _ _ _ h=>h
    ·intro X hSw;clear hS;go_simp;omega
    simp only[Act.put,aA,aB,aC,aD,aE,aF];refine wU 19 (.agg #[.int .i64 x,.int .i64 y,.int .i64 z,.bool e,.int .u32 (i:Int),.bool r,.int .i64 d,.slice ao m c']) rfl (by kernel_rfl) (yieldsIf_load_mid (by rfl) 67 (.tmp 7) rfl PB 0 rfl [.int .i64 x,.int .i64 y,.int .i64 z,.bool e,.int .u32 (i:Int),.bool r,.int .i64 d,.slice ao m c'] _ (fun X h=>h.2.2.2) Tryz.underlying67 rfl sz129) hS ?_ fun _ _ _ h=>h
    simp only[Act.put,aA,aB,aC,aD,aE,aF];refine wV 20 (.pointer (some ⟨gs,Z*8,none⟩)) rfl (by kernel_rfl) ?_ hS ?_ fun _ _ _ h=>h
    ·intro X hSw;clear hS;go_simp
    simp only[Act.put,aA,aB,aC,aD,aE,aF];refine wpAnyH_all (rs:=[21]) (by kernel_rfl) (by simp) ?_
    refine AllReadyH.cons rfl (fun K hK=>?_) AllReadyH.nil
    rw[if_pos (by rfl)]
    refine wp_store_mid 67 (.tmp 41) (.tmp 40) rfl gs (Z*8) _ rfl rfl HZT.out sz129 (one8 _ _ _ _ _ _ _ _ _ _) ?_
    simp only[Act.put,aD,aE,aF]
    have HT4:Hid (pt8L c0 c2 r1 gf n1 kf gb n2 kb mb gr f1 n3 lo st w0 W (World.setCells (World.drew W3) gs (Z*8) [.int .i64 x,.int .i64 y,.int .i64 z,.bool e,.int .u32 (i:Int),.bool r,.int .i64 d,.slice ao m c']) P gs room first (L++its.take (k+1)) C):=HST.out _ _ (HT3.out.below HG.out.2 (Below.refl _ _).drew)
    have HP4:Hid (blk (World.setCells (World.drew W3) gs (Z*8) [.int .i64 x,.int .i64 y,.int .i64 z,.bool e,.int .u32 (i:Int),.bool r,.int .i64 d,.slice ao m c']) PB [.int .i64 x,.int .i64 y,.int .i64 z,.bool e,.int .u32 (i:Int),.bool r,.int .i64 d,.slice ao m c'] 67):=(show blk (World.drew W3) PB [.int .i64 x,.int .i64 y,.int .i64 z,.bool e,.int .u32 (i:Int),.bool r,.int .i64 d,.slice ao m c'] 67 from HP3.out.2).other HPG.out _ _
    refine hK.out _ (World.setCells (World.drew W3) gs (Z*8) [.int .i64 x,.int .i64 y,.int .i64 z,.bool e,.int .u32 (i:Int),.bool r,.int .i64 d,.slice ao m c']) ⟨HT4.out.p.cell 10 _ rfl,HT4.out.p.cell 11 _ rfl,HT4.out.p.cell 12 _ rfl,HP4.out.load⟩ (fun hS2=>?_)
    clear hS hK K;refine wpAnyH_done (by kernel_rfl) ?_ _
    clear hS2 hmod;generalize hW5:World.setCells (World.drew W3) gs (Z*8) _=w5
    have HT5:Hid (pt8L c0 c2 r1 gf n1 kf gb n2 kb mb gr f1 n3 lo st w0 W w5 P gs room first (L++its.take (k+1)) C):=(hW5 ▸ HT4.out)
    clear hW5 HT4 HP4;have z2:=HT5.out.p.cell 12 _ rfl
    have z2f:=HT5.out.p.free 12
    go_wp2
    go_roundw
    case rel=>
     refine⟨k+1,by omega,by go_num,?_⟩
     rw[← HC1.out]
     exact HT5.out.count HG.out.1 (C+1)
    case measure=>simp[intOf];omega
   ·have hkt:k=t:=by omega
    subst hkt;go_wp2
    go_ret;exact⟨rfl,HPT.out⟩
theorem isBytes.typed {W:World} {a:Option Addr} {n cap:Nat} {l:List Nat} (h:isBytes W a n cap l) (p:Addr) (v v':Value) (hp:W.cell? p=some v) (hv:∀ x,v≠.int .u8 x):isBytes (W.setCell p v') a n cap l:=by
 refine⟨h.len,h.cap,h.small,fun hne=>?_⟩
 obtain⟨g,off,e,hc⟩:=h.cells hne
 refine⟨g,off,e,fun j hj=>?_⟩
 rw[World.cell?_setCell_other _ _ _ _ (by
  intro e2;have:=hc j hj
  rw[← e2,hp] at this
  injection this with this
  exact hv _ this)]
 exact hc j hj
def onW (b:R8):Prop:=b.x=2∨b.x=3
def bsy (bx:List R8) (r:Int):Prop:=(∃ (k:Nat) (h:k<bx.length),onW bx[k]∧(∀ j (hj:j<bx.length),j<k→¬ onW bx[j])∧r=(k:Int))∨((∀ k (h:k<bx.length),¬ onW bx[k])∧r = -1)
theorem bsy_neg {bx:List R8} {r:Int} (h:bsy bx r):r<0↔∀ k (h:k<bx.length),¬ onW bx[k]:=by
 rcases h with⟨k,hk,h1,_,rfl⟩|⟨h1,rfl⟩
 ·exact⟨fun e=>by omega,fun e=>absurd h1 (e k hk)⟩
 ·exact⟨fun _=>h1,fun _=>by omega⟩
set_option maxRecDepth 20000 in
theorem l3busy_any (w:World) (H:Ho) (s:Sl) (h:isR8s w s.a2 s.n2 s.k2 H.bx) (hn:s.n2≤1000) :
  Calls Tryz.prog 76 #[.agg (hoL H s).toArray] w fun o w'=>∃ r:Int,o = .returned (.int .i64 r)∧bsy H.bx r∧Below w.heap.size w w':=by
 have H0:Hid (obS w H s (w.alloc (.cells (hoL H s).toArray 39))):=⟨blk.new w _ 39,(Below.refl _ _).alloc (Nat.le_refl _) _⟩
 have hcp:=h.cap
 obtain⟨c0,c1,c2,c3,fs,bx,ff,qu,lo,st⟩:=H
 obtain⟨a1,n1,k1,a2,n2,k2,a3,n3,k3,a4,n4,k4⟩:=s
 simp only[] at h hcp hn ⊢
 have HL:Hid (n2=bx.length):=h.len
 by_cases hl:bx=[]
 ·subst hl;have hn0:n2=0:=HL.out
  subst hn0;clear h;go_enter Tryz.func76,Tryz.ntmps76
  go_wp2_with fail;go_loopw [3] (fun i wr=>i = .int .i64 0∧obS w ⟨c0,c1,c2,c3,fs,[],ff,qu,lo,st⟩ ⟨a1,n1,k1,a2,0,k2,a3,n3,k3,a4,n4,k4⟩ wr) (fun _ _=>0)
  case atStart=>exact⟨rfl,H0.out⟩
  case round=>
   obtain⟨rfl,hS⟩:=hrel
   have p5:=hS.p.cell 5 _ rfl
   have HS:=hS.b
   go_wp2
   go_ret;exact⟨-1,rfl,Or.inr ⟨fun k hk=>(by cases hk),rfl⟩,HS⟩
 obtain⟨g,off,rfl,hc⟩:=h.cells hl
 have HC:Hid (∀ j (h:j<bx.length),∃ ao m c,at8 w g (off+j*8) bx[j] ao m c):=hc
 clear hc h hl;go_enter Tryz.func76,Tryz.ntmps76
 go_wp2_with fail;go_loopw [3] (fun i wr=>∃ k:Nat,k≤n2∧i = .int .i64 (k:Int)∧(∀ j (hj:j<bx.length),j<k→¬ onW bx[j])∧obS w ⟨c0,c1,c2,c3,fs,bx,ff,qu,lo,st⟩ ⟨a1,n1,k1,some ⟨g,off,none⟩,n2,k2,a3,n3,k3,a4,n4,k4⟩ wr) (fun i _=>n2-(intOf i).toNat)
 case atStart=>exact⟨0,Nat.zero_le _,rfl,fun j _ h=>absurd h (Nat.not_lt_zero _),H0.out⟩
 case round=>
  obtain⟨k,hk,rfl,hA,hS⟩:=hrel
  have HA:Hid (∀ j (hj:j<bx.length),j<k→¬ onW bx[j]):=hA
  have HS:Hid (obS w ⟨c0,c1,c2,c3,fs,bx,ff,qu,lo,st⟩ ⟨a1,n1,k1,some ⟨g,off,none⟩,n2,k2,a3,n3,k3,a4,n4,k4⟩ wr):=hS
  have x5:=hS.p.cell 5 _ rfl
  clear hA hS;by_cases hlt:k<n2
  ·have hkl:k<bx.length:=by have:=HL.out;omega
   obtain⟨ao,m,c,hx⟩:=HC.out k hkl
   have u0:=(hx.below HS.out.b).c0
   clear hx;have HX:Hid (bx[k].x=bx[k].x):=rfl
   have HON:Hid (onW bx[k]↔(bx[k].x=2∨bx[k].x=3)):=Iff.rfl
   generalize bx[k].x=x at *;by_cases h2:x=2
   ·subst h2;go_wp2_with fail;go_ret;exact⟨k,rfl,Or.inl ⟨k,hkl,HON.out.2 (by simp),HA.out,rfl⟩,HS.out.b⟩
   ·have h2':(x == 2)=false:=by simpa using h2
    by_cases h3:x=3
    ·subst h3;go_wp2_with fail;go_ret;exact⟨k,rfl,Or.inl ⟨k,hkl,HON.out.2 (by simp),HA.out,rfl⟩,HS.out.b⟩
    ·have h3':(x == 3)=false:=by simpa using h3
     have HNO:Hid (¬ onW bx[k]):=fun e=>by rcases HON.out.1 e with e | e <;> contradiction
     clear h2 h3;go_wp2_with fail;go_roundw
     case rel=>
      refine⟨k+1,by omega,by go_num,fun j hj hjk=>?_,HS.out⟩
      by_cases e:j=k
      ·subst e;exact HNO.out
      ·exact HA.out j hj (by omega)
     case measure=>simp[intOf];omega
  ·have hkn:n2=k:=by omega
   subst hkn;go_wp2_with fail;go_ret;exact⟨-1,rfl,Or.inr ⟨fun j hj=>HA.out j hj (by have:=HL.out;omega),rfl⟩,HS.out.b⟩
end Go.Proofs.YtkfcfigbgmbaiaaGreat
