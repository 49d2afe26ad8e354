import Derived.Test.YtkfcfigbgmbaiaaGreatK38
import Derived.Test.YtkfcfigbgmbaiaaGreatK32
import Derived.Test.YtkfcfigbgmbaiaaGreatK33
import Derived.Test.YtkfcfigbgmbaiaaGreatK26
import Derived.Test.YtkfcfigbgmbaiaaGreatK30
namespace Go.Proofs.YtkfcfigbgmbaiaaGreat
open Go.RowKit
set_option linter.unusedVariables false
theorem okHo.n3 {H:Ho} (h:okHo H):H.ff.length≤1000:=by
 have h1:=of_decide_eq_true h.cf
 have h2:=h.nf
 omega
def freeIx (bx:List R8):Nat:=bx.findIdx (fun b=>b.x == 0)
structure sbS (w:World) (L F:List Value) (W:World):Prop where
 p:blk W w.heap.size L 39
 f:blk W (w.heap.size+1) F 55
 r:blk W (w.heap.size+1+1) Z10 39
theorem sbS.below {w:World} {L F:List Value} {W W':World} (h:sbS w L F W) (hb:Below W.heap.size W W'):sbS w L F W':=⟨h.p.below hb,h.f.below hb,h.r.below hb⟩
theorem sbS.new (w:World) (L F:List Value):sbS w L F (((w.alloc (.cells L.toArray 39)).alloc (.cells F.toArray 55)).alloc (.cells Z10.toArray 39)):=by
 refine⟨((blk.new w _ 39).alloc _).alloc _,?_,?_⟩
 ·have:=(blk.new (w.alloc (.cells L.toArray 39)) F 55).alloc (.cells Z10.toArray 39)
  simpa using this
 ·have:=blk.new ((w.alloc (.cells L.toArray 39)).alloc (.cells F.toArray 55)) Z10 39
  have e:((w.alloc (.cells L.toArray 39)).alloc (.cells F.toArray 55)).heap.size=w.heap.size+1+1:=by simp
  rw[e] at this
  exact this
theorem sp_endG {B T0 T1 T2 g4 x:Nat} {w w7 w8 V:World} {H:Ho} {s:Sl} {ev:R8} {g' n' k':Nat} (hS:spS B T0 T1 T2 H s w7) (hT2:T2≤w.heap.size) (hg4:T2≤g4) (hx:w.heap.size≤x∧x<w7.heap.size)
  (hV:∀ V:World,(∀ x,T2≤x→x<w.heap.size∨w7.heap.size≤x→x<w8.heap.size→V.heap[x]?=w8.heap[x]?)→w8.heap.size≤V.heap.size→rowQ8 T2 V.heap.size 67 g' n' k' (quP H.c3 H.qu ev) V)
  (he:∀ q,q≠g4→q<w7.heap.size→w8.heap[q]?=w7.heap[q]?) (hb:w7.heap.size≤w8.heap.size) (oth:∀ q,q≠x→V.heap[q]?=w8.heap[q]?) (hsz:V.heap.size=w8.heap.size):spS B T0 T1 T2 (postHo H ev) (qSl s g' n' k') V:=by
 have ho:=hS.o
 refine hS.post (hV _ (fun q h1 h2 h3=>oth q (by omega)) (by omega)) (fun q h1 h2=>?_) (by omega)
 rw[oth q (by omega)]
 exact he q (by omega) (by omega)
theorem bxR.putIs {B T g n k:Nat} {bx:List R8} {hs:Nat→Hd} {W V:World} (h:bxR B T g n k bx hs W) (i:Nat) (hi:i<bx.length) (b:R8) (hd:Hd) (hV:∀ x,x≠g→B≤x→x<T→V.heap[x]?=W.heap[x]?) (hg:V.heap[g]?=(setRow W g (i*8) (x8 (b,hd))).heap[g]?) (hb:isBytes V hd.1 hd.2.1 hd.2.2 b.l):isR8s V (some ⟨g,0,none⟩) n k (bx.set i b):=by
 have hln:=h.len
 refine⟨by rw[List.length_set];exact h.len,h.cap,fun _=>⟨g,0,rfl,fun j hj=>?_⟩⟩
 have hj':j<bx.length:=by simpa using hj
 by_cases e:j=i
 ·subst e;rw[List.getElem_set_self]
  refine⟨hd.1,hd.2.1,hd.2.2,?_⟩
  rw[Nat.zero_add]
  refine x8_at8 (rangeAt.up ?_ hg) hb
  intro t u hu;have ht:t<(x8 (b,hd)).length:=(List.getElem?_eq_some_iff.mp hu).1
  have ht8:t<8:=by simpa[x8] using ht
  rw[setRow_at g _ _ _ t ht ((h.row (j*8+t) (by omega)).1)]
  rw[List.getElem?_eq_getElem ht] at hu
  exact hu
 ·rw[List.getElem_set_ne (fun x=>e x.symm)]
  refine⟨(hs j).1,(hs j).2.1,(hs j).2.2,?_⟩
  rw[Nat.zero_add]
  refine x8_at8 (rangeAt.up ?_ hg) ?_
  ·intro t u hu;have ht:t<8:=by have:=(List.getElem?_eq_some_iff.mp hu).1;simpa[x8] using this
   rw[setRow_other g _ _ _ _ (by simp[x8];omega)]
   exact h.rng j hj' t u hu
  ·obtain⟨h1,h2⟩:=h.dat j hj'
   rcases h2 with⟨e1,e2⟩|⟨b',e1,e2,e3,e4⟩
   ·exact h1.none0 e2
   ·rw[e1] at h1 ⊢
    exact h1.other (hV b' e4 e2 e3)
theorem spS.isSt {B T0 T1 T2:Nat} {H:Ho} {s:Sl} {W:World} (h:spS B T0 T1 T2 H s W):St B W (fun V=>isHo V H s):=fun V hV=>by
 obtain⟨o1,o2,o3,o4⟩:=h.o
 obtain⟨gf,e1,h1a,h1b,h1⟩:=h.f
 obtain⟨gb,hs,e2,h2⟩:=h.x
 obtain⟨gq,e3,h3⟩:=h.r
 obtain⟨g4,e4,h4⟩:=h.q
 refine⟨?_,?_,?_,?_⟩
 ·rw[e1];exact h1.same (hV gf h1a (by omega))
 ·rw[e2];exact (h2.st fun x h1 h2=>hV x (by omega) (by omega)).is
 ·rw[e3];exact (h3.keep fun x h1 h2=>hV x (by omega) (by omega)).is
 ·rw[e4];exact (h4.keep fun x h1 h2=>hV x (by omega) h2).is
abbrev xHo (H:Ho) (bx:List R8) (st:Int):Ho:={ H with bx:=bx,st:=st }
theorem spS.put {B T0 T1 T2 gb:Nat} {H:Ho} {s:Sl} {W V:World} {hs:Nat→Hd} (h:spS B T0 T1 T2 H s W) (e2:s.a2=some ⟨gb,0,none⟩) (hx:bxR T0 T1 gb s.n2 s.k2 H.bx hs W) (i:Nat) (hi:i<H.bx.length) (b:R8) (hd:Hd) (st:Int) (T:Nat) (hT:T2≤T) (hq:∃ g4,s.a4=some ⟨g4,0,none⟩∧rowQ8 T2 T 67 g4 s.n4 s.k4 H.qu W) (hV:∀ x,x≠gb→B≤x→x<T→V.heap[x]?=W.heap[x]?) (hg:V.heap[gb]?=(setRow W gb (i*8) (x8 (b,hd))).heap[gb]?) (hb:isBytes V hd.1 hd.2.1 hd.2.2 b.l):isHo V (xHo H (H.bx.set i b) st) s:=by
 obtain⟨o1,o2,o3,o4⟩:=h.o
 obtain⟨gf,e1,h1a,h1b,h1⟩:=h.f
 obtain⟨gq,e3,h3⟩:=h.r
 obtain⟨g4,e4,h4⟩:=hq
 have hl:=hx.lo
 have hh:=hx.hi
 refine⟨?_,?_,?_,?_⟩
 ·rw[e1];exact h1.same (hV gf (by omega) (by omega) (by omega))
 ·rw[e2];exact hx.putIs i hi b hd (fun x h1 h2 h3=>hV x h1 (by omega) (by omega)) hg hb
 ·rw[e3];exact (h3.keep fun x h1 h2=>hV x (by omega) (by omega) (by omega)).is
 ·rw[e4];exact (h4.keep fun x h1 h2=>hV x (by omega) (by omega) h2).is
structure sbT (w:World) (L F:List Value) (W:World):Prop where
 s:sbS w L F W
 b:Below w.heap.size w W
theorem sbT.below {w:World} {L F:List Value} {W W':World} (h:sbT w L F W) (hb:Below W.heap.size W W'):sbT w L F W':=⟨h.s.below hb,h.b.trans (hb.mono h.b.size)⟩
theorem sbT.new (w:World) (L F:List Value):sbT w L F (((w.alloc (.cells L.toArray 39)).alloc (.cells F.toArray 55)).alloc (.cells Z10.toArray 39)):=⟨sbS.new w L F,(((Below.refl _ _).alloc (Nat.le_refl _) _).alloc (by simp) _).alloc (by simp;omega) _⟩
theorem fstB.free {bx:List R8} {r:Int} (h:fstB (fun b=>b.x=0) bx r):(r = -1∧¬ freeIx bx<bx.length)∨(r=(freeIx bx:Int)∧freeIx bx<bx.length):=by
 rcases h with⟨k,hk,h1,h2,rfl⟩|⟨h1,rfl⟩
 ·right
  have e:freeIx bx=k:=by
   unfold freeIx
   rw[List.findIdx_eq hk]
   exact⟨by simp only[beq_iff_eq];exact h1,fun j hj=>by simpa using h2 j (by omega) hj⟩
  rw[e]
  exact⟨rfl,hk⟩
 ·left
  refine⟨rfl,?_⟩
  have:freeIx bx=bx.length:=List.findIdx_eq_length.2 fun b hb=>by
   obtain⟨j,hj,rfl⟩:=List.getElem_of_mem hb
   simpa using h1 j hj
  omega
set_option maxHeartbeats 16000000
theorem wpStill_skip {ops:Array Oper} {rest:List Oper} {op:Oper} {a:Act} {w:World} {Q:Act→Prop} (hw:Region.wanted op (yielded ops a.tmps)=false) (h:wpStill Tryz.prog ops w Q rest (a.put op.dst undef)):wpStill Tryz.prog ops w Q (op :: rest) a:=
 wpStill_step fun K hK=>by
  rw[hw]
  exact hK _ h
theorem wpStill_ok {ops:Array Oper} {rest:List Oper} {op:Oper} {a:Act} {w:World} {Q:Act→Prop} (v:Value) (hw:Region.wanted op (yielded ops a.tmps)=true) (hx:(execOp a.eval op).run Tryz.prog w = .ok (.value v) w) (h:wpStill Tryz.prog ops w Q rest (a.put op.dst v)):wpStill Tryz.prog ops w Q (op :: rest) a:=
 wpStill_step fun K hK=>by
  simp only[hw,if_true]
  unfold Oper.still
  rw[hx]
  exact⟨rfl,hK _ h⟩
def offB (j t:Nat) (o:Oper):Bool:=(match o.guard with | some (i,true)=>i == j | _=>false) && (match o.dst with | some d=>d != t | none=>true)
theorem wpStill_skips {ops:Array Oper} {w:World} {Q:Act→Prop} {j t:Nat} (hj:((ops[j]?).bind (·.dst))=some t) {rest:List Oper}:∀ (l:List Oper) (a:Act),l.all (offB j t)=true→a.tmps[t]?=some (.bool false)→wpStill Tryz.prog ops w Q rest (l.foldl (fun a o=>a.put o.dst undef) a)→wpStill Tryz.prog ops w Q (l++rest) a
 | [],a,_,_,h=>h
 | o :: l,a,hall,ht,h=>by
  simp only[List.all_cons,Bool.and_eq_true] at hall
  obtain⟨ho,hall⟩:=hall
  unfold offB at ho
  simp only[Bool.and_eq_true] at ho
  refine wpStill_skip ?_ (wpStill_skips hj l _ hall ?_ h)
  ·unfold Region.wanted
   revert ho
   rcases o.guard with _|⟨i,b⟩
   ·simp
   ·cases b
    ·simp
    ·intro ho;have e:i=j:=by simpa using ho.1
     subst e;simp only[yielded,hj,Option.bind_some,ht]
     rfl
  ·revert ho
   rcases hd:o.dst with _|d
   ·intro _;simpa[Act.put] using ht
   ·intro ho;have hne:d≠t:=by simpa using ho.2
    simp only[Act.put]
    rw[Array.getElem?_setIfInBounds_ne hne]
    exact ht
theorem wpStill_off {ops:Array Oper} {w:World} {Q:Act→Prop} {a:Act} {op:Oper} {L:List Oper} (n:Nat) {j t:Nat} (hj:((ops[j]?).bind (·.dst))=some t) (hw:op.guard=none) (hd:op.dst=some t) (hx:(execOp a.eval op).run Tryz.prog w = .ok (.value (.bool false)) w) (ht:t<a.tmps.size) (hall:(L.take n).all (offB j t)=true) (h:wpStill Tryz.prog ops w Q (L.drop n) ((L.take n).foldl (fun a o=>a.put o.dst undef) (a.put (some t) (.bool false)))):wpStill Tryz.prog ops w Q (op :: L) a:=by
 refine wpStill_ok (.bool false) (by unfold Region.wanted;rw[hw]) hx ?_
 rw[hd,← List.take_append_drop n L]
 refine wpStill_skips hj _ _ hall ?_ ?_
 ·simp only[Act.put]
  rw[Array.getElem?_setIfInBounds_self_of_lt ht]
 ·exact h
def pass1 (F:R5) (x:R3):Bool:=x.e == F.e && (bits .and .u32 (F.i:Int) x.m == bits .and .u32 x.k x.m)
def passB (fs:List R3) (F:R5):Bool:=fs.any (pass1 F) || fs.length == 0
theorem b0 (n:Nat):((n:Int) == 0)=(n == 0):=by
 rw[Bool.eq_iff_iff]
 simp
theorem passB_yes {fs:List R3} {F:R5} {k:Nat} (hk:k<fs.length) (h:pass1 F fs[k]=true):passB fs F=true:=by
 unfold passB
 have:fs.any (pass1 F)=true:=List.any_eq_true.2 ⟨_,List.getElem_mem hk,h⟩
 rw[this]
 rfl
theorem passB_no {fs:List R3} {F:R5} (h:∀ j (hj:j<fs.length),pass1 F fs[j]=false):passB fs F=(fs.length == 0):=by
 unfold passB
 have:fs.any (pass1 F)=false:=by
  rw[List.any_eq_false]
  intro x hx;obtain⟨j,hj,rfl⟩:=List.getElem_of_mem hx
  rw[h j hj]
  simp
 rw[this]
 rfl
set_option maxRecDepth 20000 in
theorem l3passes_any (w:World) (a:Option Addr) (n cap:Nat) (fs:List R3) (F:R5) (fa:Option Addr) (fm fc:Nat) (h:isR3s w a n cap fs) (hn:n≤1000) :
  Calls Tryz.prog 155 #[.slice a n cap,frV F.e F.i F.r F.d fa fm fc] w fun o w'=>o = .returned (.bool (passB fs F))∧Below w.heap.size w w':=by
 obtain⟨fE,fI,fR,fD,fL⟩:=F
 have hcp:=h.cap
 have HL:Hid (n=fs.length):=h.len
 have HH:Hid (isR3s w a n cap fs):=h
 have HP:Hid (blk (w.alloc (.cells [.bool fE,.int .u32 (fI:Int),.bool fR,.int .i64 fD,.slice fa fm fc].toArray 55)) w.heap.size [.bool fE,.int .u32 (fI:Int),.bool fR,.int .i64 fD,.slice fa fm fc] 55):=blk.new w _ 55
 have HB0:Hid (Below w.heap.size w (w.alloc (.cells [.bool fE,.int .u32 (fI:Int),.bool fR,.int .i64 fD,.slice fa fm fc].toArray 55))):=(Below.refl _ _).alloc (Nat.le_refl _) _
 clear h;go_enter Tryz.func155,Tryz.ntmps155
 go_wp2_with fail;go_loopw [5] (fun i wr=>∃ k:Nat,k≤n∧i = .int .i64 (k:Int)∧(∀ j (hj:j<fs.length),j<k→pass1 ⟨fE,fI,fR,fD,fL⟩ fs[j]=false)∧Below w.heap.size w wr∧blk wr w.heap.size [.bool fE,.int .u32 (fI:Int),.bool fR,.int .i64 fD,.slice fa fm fc] 55) (fun i _=>n-(intOf i).toNat)
 case atStart=>exact⟨0,Nat.zero_le _,rfl,fun j hj h=>absurd h (Nat.not_lt_zero _),HB0.out,HP.out⟩
 case round=>
  obtain⟨k,hk,rfl,hdone,hb,hp⟩:=hrel
  have HB:Hid (Below w.heap.size w wr∧blk wr w.heap.size [.bool fE,.int .u32 (fI:Int),.bool fR,.int .i64 fD,.slice fa fm fc] 55):=⟨hb,hp⟩
  have HDN:Hid (∀ j (hj:j<fs.length),j<k→pass1 ⟨fE,fI,fR,fD,fL⟩ fs[j]=false):=hdone
  clear hb hp hdone;by_cases hlt:k<n
  ·have hkl:k<fs.length:=by have:=HL.out;omega
   obtain⟨g,off,rfl,hc⟩:=HH.out.cells (by intro e;rw[e] at hkl;cases hkl)
   have h0:=(hc k hkl).below HB.out.1
   have HNX:Hid (pass1 ⟨fE,fI,fR,fD,fL⟩ fs[k]=false→∀ j (hj:j<fs.length),j<k+1→pass1 ⟨fE,fI,fR,fD,fL⟩ fs[j]=false):=fun hx j hj hjk=>by
    by_cases e:j=k
    ·subst e;exact hx
    ·exact HDN.out j hj (by omega)
   have HYS:Hid (pass1 ⟨fE,fI,fR,fD,fL⟩ fs[k]=true→passB fs ⟨fE,fI,fR,fD,fL⟩=true):=passB_yes hkl
   clear hc HDN;have y0:=h0.c0
   have y1:=h0.c1
   have y2:=h0.c2
   have z0:=HB.out.2.cell 0 _ rfl
   have z1:=HB.out.2.cell 1 _ rfl
   clear h0;generalize fs[k]=b at *;obtain⟨e,mm,kk⟩:=b
   simp only[] at y0 y1 y2
   by_cases he:e=fE
   ·subst he;by_cases hx:(bits .and .u32 (fI:Int) mm == bits .and .u32 kk mm)=true
    ·have HT:Hid (passB fs ⟨e,fI,fR,fD,fL⟩=true):=HYS.out (by unfold pass1;simp only[hx,Bool.and_true,beq_self_eq_true])
     go_wp2_with fail;refine wp_region_still_lit (by kernel_rfl) (by kernel_rfl) ?_
     change wpStill Tryz.prog _ (World.drew wr) (fun a'=>Exit.then _ _ Exit.normal a' (World.drew wr)) _ _
     have y0:(World.drew wr).cell? ⟨g,off+k*3,none⟩=some (.bool e):=y0
     have y1:(World.drew wr).cell? ⟨g,off+k*3+1,none⟩=some (.int .u32 mm):=y1
     have y2:(World.drew wr).cell? ⟨g,off+k*3+2,none⟩=some (.int .u32 kk):=y2
     have z0:(World.drew wr).cell? ⟨w.heap.size,0,none⟩=some (.bool e):=z0
     have z1:(World.drew wr).cell? ⟨w.heap.size,1,none⟩=some (.int .u32 (fI:Int)):=z1
     have HB:Hid (Below w.heap.size w (World.drew wr)∧blk (World.drew wr) w.heap.size [.bool e,.int .u32 (fI:Int),.bool fR,.int .i64 fD,.slice fa fm fc] 55):=⟨HB.out.1.drew,HB.out.2.below (Below.refl _ _).drew⟩
     generalize World.drew wr=v0 at *;repeat (still_step)
     refine wpStill_nil ?_
     go_wp2_with fail;go_ret;exact⟨by rw[HT.out];rfl,HB.out.1⟩
    ·have hx':(bits .and .u32 (fI:Int) mm == bits .and .u32 kk mm)=false:=by simpa using hx
     have HN:Hid (∀ j (hj:j<fs.length),j<k+1→pass1 ⟨e,fI,fR,fD,fL⟩ fs[j]=false):=HNX.out (by unfold pass1;simp only[hx',Bool.and_false])
     go_wp2_with fail;refine wp_region_still_lit (by kernel_rfl) (by kernel_rfl) ?_
     change wpStill Tryz.prog _ (World.drew wr) (fun a'=>Exit.then _ _ Exit.normal a' (World.drew wr)) _ _
     have y0:(World.drew wr).cell? ⟨g,off+k*3,none⟩=some (.bool e):=y0
     have y1:(World.drew wr).cell? ⟨g,off+k*3+1,none⟩=some (.int .u32 mm):=y1
     have y2:(World.drew wr).cell? ⟨g,off+k*3+2,none⟩=some (.int .u32 kk):=y2
     have z0:(World.drew wr).cell? ⟨w.heap.size,0,none⟩=some (.bool e):=z0
     have z1:(World.drew wr).cell? ⟨w.heap.size,1,none⟩=some (.int .u32 (fI:Int)):=z1
     have HB:Hid (Below w.heap.size w (World.drew wr)∧blk (World.drew wr) w.heap.size [.bool e,.int .u32 (fI:Int),.bool fR,.int .i64 fD,.slice fa fm fc] 55):=⟨HB.out.1.drew,HB.out.2.below (Below.refl _ _).drew⟩
     generalize World.drew wr=v0 at *;repeat (still_step)
     refine wpStill_nil ?_
     go_wp2_with fail;go_roundw
     case rel=>exact⟨k+1,by omega,by go_num,HN.out,HB.out.1,HB.out.2⟩
     case measure=>simp[intOf];omega
   ·have HN:Hid (∀ j (hj:j<fs.length),j<k+1→pass1 ⟨fE,fI,fR,fD,fL⟩ fs[j]=false):=HNX.out (by unfold pass1;simp[he])
    cases e
    ·cases fE
     ·exact absurd rfl he
     ·clear he;go_wp2_with fail;refine wp_region_still_lit (by kernel_rfl) (by kernel_rfl) ?_
      change wpStill Tryz.prog _ (World.drew wr) (fun a'=>Exit.then _ _ Exit.normal a' (World.drew wr)) _ _
      have y0:(World.drew wr).cell? ⟨g,off+k*3,none⟩=some (.bool false):=y0
      have y1:(World.drew wr).cell? ⟨g,off+k*3+1,none⟩=some (.int .u32 mm):=y1
      have y2:(World.drew wr).cell? ⟨g,off+k*3+2,none⟩=some (.int .u32 kk):=y2
      have z0:(World.drew wr).cell? ⟨w.heap.size,0,none⟩=some (.bool true):=z0
      have z1:(World.drew wr).cell? ⟨w.heap.size,1,none⟩=some (.int .u32 (fI:Int)):=z1
      have HB:Hid (Below w.heap.size w (World.drew wr)∧blk (World.drew wr) w.heap.size [.bool true,.int .u32 (fI:Int),.bool fR,.int .i64 fD,.slice fa fm fc] 55):=⟨HB.out.1.drew,HB.out.2.below (Below.refl _ _).drew⟩
      generalize World.drew wr=v0 at *;iterate 8 still_step
      refine wpStill_off 20 (j:=8) (t:=20) rfl rfl rfl rfl (by simp) rfl ?_
      simp only[List.take_succ_cons,List.take_zero,List.drop_succ_cons,List.drop_zero,List.foldl_cons,List.foldl_nil,Act.put,aA,aB,aC]
      still_step
      refine wpStill_nil ?_
      go_wp2_with fail;go_roundw
      case rel=>exact⟨k+1,by omega,by go_num,HN.out,HB.out.1,HB.out.2⟩
      case measure=>simp[intOf];omega
    ·cases fE
     ·clear he;go_wp2_with fail;refine wp_region_still_lit (by kernel_rfl) (by kernel_rfl) ?_
      change wpStill Tryz.prog _ (World.drew wr) (fun a'=>Exit.then _ _ Exit.normal a' (World.drew wr)) _ _
      have y0:(World.drew wr).cell? ⟨g,off+k*3,none⟩=some (.bool true):=y0
      have y1:(World.drew wr).cell? ⟨g,off+k*3+1,none⟩=some (.int .u32 mm):=y1
      have y2:(World.drew wr).cell? ⟨g,off+k*3+2,none⟩=some (.int .u32 kk):=y2
      have z0:(World.drew wr).cell? ⟨w.heap.size,0,none⟩=some (.bool false):=z0
      have z1:(World.drew wr).cell? ⟨w.heap.size,1,none⟩=some (.int .u32 (fI:Int)):=z1
      have HB:Hid (Below w.heap.size w (World.drew wr)∧blk (World.drew wr) w.heap.size [.bool false,.int .u32 (fI:Int),.bool fR,.int .i64 fD,.slice fa fm fc] 55):=⟨HB.out.1.drew,HB.out.2.below (Below.refl _ _).drew⟩
      generalize World.drew wr=v0 at *;iterate 8 still_step
      refine wpStill_off 20 (j:=8) (t:=20) rfl rfl rfl rfl (by simp) rfl ?_
      simp only[List.take_succ_cons,List.take_zero,List.drop_succ_cons,List.drop_zero,List.foldl_cons,List.foldl_nil,Act.put,aA,aB,aC]
      still_step
      refine wpStill_nil ?_
      go_wp2_with fail;go_roundw
      case rel=>exact⟨k+1,by omega,by go_num,HN.out,HB.out.1,HB.out.2⟩
      case measure=>simp[intOf];omega
     ·exact absurd rfl he
  ·have hkn:k=n:=by omega
   subst hkn;have HT:Hid (passB fs ⟨fE,fI,fR,fD,fL⟩=(fs.length == 0)):=passB_no (fun j hj=>HDN.out j hj (by have:=HL.out;omega))
   have hl:k=fs.length:=HL.out
   subst hl;go_wp2_with fail;go_ret;refine⟨?_,HB.out.1⟩
   rw[HT.out,← b0 fs.length]
   rfl
set_option maxRecDepth 20000 in
theorem passes_any (w:World) (P:Nat) (g n cap:Nat) (fs:List R3) (F:R5) (fa:Option Addr) (fm fc:Nat) (y4:w.cell? ⟨P,4,none⟩=some (.slice (some ⟨g,0,none⟩) n cap)) (h:isR3s w (some ⟨g,0,none⟩) n cap fs) (hn:n≤1000) :
  Calls Tryz.prog 158 #[.pointer (some ⟨P,0,none⟩),frV F.e F.i F.r F.d fa fm fc] w fun o w'=>o = .returned (.bool (passB fs F))∧Below w.heap.size w w':=by
 obtain⟨fE,fI,fR,fD,fL⟩:=F
 have hcp:=h.cap
 have HL:Hid (n=fs.length):=h.len
 have HH:Hid (isR3s w (some ⟨g,0,none⟩) n cap fs):=h
 have HP:Hid (blk (w.alloc (.cells [.bool fE,.int .u32 (fI:Int),.bool fR,.int .i64 fD,.slice fa fm fc].toArray 55)) w.heap.size [.bool fE,.int .u32 (fI:Int),.bool fR,.int .i64 fD,.slice fa fm fc] 55):=blk.new w _ 55
 have HB0:Hid (Below w.heap.size w (w.alloc (.cells [.bool fE,.int .u32 (fI:Int),.bool fR,.int .i64 fD,.slice fa fm fc].toArray 55))):=(Below.refl _ _).alloc (Nat.le_refl _) _
 have HY4:Hid (∀ X,Below w.heap.size w X→X.cell? ⟨P,4,none⟩=some (.slice (some ⟨g,0,none⟩) n cap)):=fun X hX=>(hX.cell (by exact World.block_lt_of_cell? w _ y4)).trans y4
 have y4A:=HY4.out _ HB0.out
 clear h y4;go_enter Tryz.func158,Tryz.ntmps158
 go_wp2_with fail;clear y4A;go_loopw [12] (fun i wr=>∃ k:Nat,k≤n∧i = .int .i64 (k:Int)∧(∀ j (hj:j<fs.length),j<k→pass1 ⟨fE,fI,fR,fD,fL⟩ fs[j]=false)∧Below w.heap.size w wr∧blk wr w.heap.size [.bool fE,.int .u32 (fI:Int),.bool fR,.int .i64 fD,.slice fa fm fc] 55) (fun i _=>n-(intOf i).toNat)
 case atStart=>exact⟨0,Nat.zero_le _,rfl,fun j hj h=>absurd h (Nat.not_lt_zero _),HB0.out,HP.out⟩
 case round=>
  obtain⟨k,hk,rfl,hdone,hb,hp⟩:=hrel
  have HB:Hid (Below w.heap.size w wr∧blk wr w.heap.size [.bool fE,.int .u32 (fI:Int),.bool fR,.int .i64 fD,.slice fa fm fc] 55):=⟨hb,hp⟩
  have HDN:Hid (∀ j (hj:j<fs.length),j<k→pass1 ⟨fE,fI,fR,fD,fL⟩ fs[j]=false):=hdone
  clear hb hp hdone;by_cases hlt:k<n
  ·have hkl:k<fs.length:=by have:=HL.out;omega
   obtain⟨g',off,eg,hc⟩:=HH.out.cells (by intro e;rw[e] at hkl;cases hkl)
   cases eg
   have h0:=(hc k hkl).below HB.out.1
   rw[Nat.zero_add] at h0
   have HNX:Hid (pass1 ⟨fE,fI,fR,fD,fL⟩ fs[k]=false→∀ j (hj:j<fs.length),j<k+1→pass1 ⟨fE,fI,fR,fD,fL⟩ fs[j]=false):=fun hx j hj hjk=>by
    by_cases e:j=k
    ·subst e;exact hx
    ·exact HDN.out j hj (by omega)
   have HYS:Hid (pass1 ⟨fE,fI,fR,fD,fL⟩ fs[k]=true→passB fs ⟨fE,fI,fR,fD,fL⟩=true):=passB_yes hkl
   clear hc HDN;have x0:=h0.c0
   have x1:=h0.c1
   have x2:=h0.c2
   clear h0;generalize fs[k]=b at *;obtain⟨e,mm,kk⟩:=b
   simp only[] at x0 x1 x2
   by_cases he:e=fE
   ·subst he;by_cases hx:(bits .and .u32 (fI:Int) mm == bits .and .u32 kk mm)=true
    ·have HT:Hid (passB fs ⟨e,fI,fR,fD,fL⟩=true):=HYS.out (by unfold pass1;simp only[hx,Bool.and_true,beq_self_eq_true])
     have hbd:Below wr.heap.size wr (wr.alloc (.cells [.bool e,.int .u32 mm,.int .u32 kk].toArray 164)):=(Below.refl _ _).alloc (Nat.le_refl _) _
     have HB:Hid (Below w.heap.size w (wr.alloc (.cells [.bool e,.int .u32 mm,.int .u32 kk].toArray 164))∧blk (wr.alloc (.cells [.bool e,.int .u32 mm,.int .u32 kk].toArray 164)) w.heap.size [.bool e,.int .u32 (fI:Int),.bool fR,.int .i64 fD,.slice fa fm fc] 55):=⟨HB.out.1.trans (hbd.mono HB.out.1.size),HB.out.2.below hbd⟩
     clear hbd;have z0:=HB.out.2.cell 0 _ rfl
     have z1:=HB.out.2.cell 1 _ rfl
     go_wp2_with fail;go_ret;exact⟨by rw[HT.out];rfl,HB.out.1⟩
    ·have hx':(bits .and .u32 (fI:Int) mm == bits .and .u32 kk mm)=false:=by simpa using hx
     have HN:Hid (∀ j (hj:j<fs.length),j<k+1→pass1 ⟨e,fI,fR,fD,fL⟩ fs[j]=false):=HNX.out (by unfold pass1;simp only[hx',Bool.and_false])
     have hbd:Below wr.heap.size wr (wr.alloc (.cells [.bool e,.int .u32 mm,.int .u32 kk].toArray 164)):=(Below.refl _ _).alloc (Nat.le_refl _) _
     have HB:Hid (Below w.heap.size w (wr.alloc (.cells [.bool e,.int .u32 mm,.int .u32 kk].toArray 164))∧blk (wr.alloc (.cells [.bool e,.int .u32 mm,.int .u32 kk].toArray 164)) w.heap.size [.bool e,.int .u32 (fI:Int),.bool fR,.int .i64 fD,.slice fa fm fc] 55):=⟨HB.out.1.trans (hbd.mono HB.out.1.size),HB.out.2.below hbd⟩
     clear hbd;have z0:=HB.out.2.cell 0 _ rfl
     have z1:=HB.out.2.cell 1 _ rfl
     go_wp2_with fail;go_roundw
     case rel=>exact⟨k+1,by omega,by go_num,HN.out,HB.out.1,HB.out.2⟩
     case measure=>simp[intOf];omega
   ·have HN:Hid (∀ j (hj:j<fs.length),j<k+1→pass1 ⟨fE,fI,fR,fD,fL⟩ fs[j]=false):=HNX.out (by unfold pass1;simp[he])
    cases e
    ·cases fE
     ·exact absurd rfl he
     ·clear he;have hbd:Below wr.heap.size wr (wr.alloc (.cells [.bool false,.int .u32 mm,.int .u32 kk].toArray 164)):=(Below.refl _ _).alloc (Nat.le_refl _) _
      have HB:Hid (Below w.heap.size w (wr.alloc (.cells [.bool false,.int .u32 mm,.int .u32 kk].toArray 164))∧blk (wr.alloc (.cells [.bool false,.int .u32 mm,.int .u32 kk].toArray 164)) w.heap.size [.bool true,.int .u32 (fI:Int),.bool fR,.int .i64 fD,.slice fa fm fc] 55):=⟨HB.out.1.trans (hbd.mono HB.out.1.size),HB.out.2.below hbd⟩
      clear hbd;have z0:=HB.out.2.cell 0 _ rfl
      have z1:=HB.out.2.cell 1 _ rfl
      go_wp2_with fail;go_roundw
      case rel=>exact⟨k+1,by omega,by go_num,HN.out,HB.out.1,HB.out.2⟩
      case measure=>simp[intOf];omega
    ·cases fE
     ·clear he;have hbd:Below wr.heap.size wr (wr.alloc (.cells [.bool true,.int .u32 mm,.int .u32 kk].toArray 164)):=(Below.refl _ _).alloc (Nat.le_refl _) _
      have HB:Hid (Below w.heap.size w (wr.alloc (.cells [.bool true,.int .u32 mm,.int .u32 kk].toArray 164))∧blk (wr.alloc (.cells [.bool true,.int .u32 mm,.int .u32 kk].toArray 164)) w.heap.size [.bool false,.int .u32 (fI:Int),.bool fR,.int .i64 fD,.slice fa fm fc] 55):=⟨HB.out.1.trans (hbd.mono HB.out.1.size),HB.out.2.below hbd⟩
      clear hbd;have z0:=HB.out.2.cell 0 _ rfl
      have z1:=HB.out.2.cell 1 _ rfl
      go_wp2_with fail;go_roundw
      case rel=>exact⟨k+1,by omega,by go_num,HN.out,HB.out.1,HB.out.2⟩
      case measure=>simp[intOf];omega
     ·exact absurd rfl he
  ·have hkn:k=n:=by omega
   subst hkn;have HT:Hid (passB fs ⟨fE,fI,fR,fD,fL⟩=(fs.length == 0)):=passB_no (fun j hj=>HDN.out j hj (by have:=HL.out;omega))
   have hl:k=fs.length:=HL.out
   subst hl;have y4B:=HY4.out _ HB.out.1
   go_wp2_with fail;go_ret;refine⟨?_,HB.out.1⟩
   rw[HT.out,← b0 fs.length]
   rfl
theorem ring5.tail {w0 W:World} {g room first:Nat} {f:R5} {r:List R5} (h:ring5 w0 W g room first (f :: r)):ring5 w0 W g room ((first+1) % room) r:=fun i hi=>by
 obtain⟨ao,m,c,h1,h2⟩:=h (i+1) (by simpa using hi)
 refine⟨ao,m,c,?_,by simpa using h2⟩
 have e:((first+1) % room+i) % room=(first+(i+1)) % room:=by
  rw[Nat.mod_add_mod]
  congr 1
  omega
 rw[e]
 simpa using h1
theorem lh.fifo {w0:World} {G:Lg} {H:Ho} {f1 f3:Nat} {hs:Nat→Hd} {nm:Nat} {D:DataW Unit} {W:World} (h:lh w0 G H f1 f3 hs nm D W) {f:R5} {r:List R5} (hff:H.ff=f :: r):lh w0 G { H with ff:=r } ((f1+1) % G.r1) f3 hs nm D ((W.setCell ⟨G.P,8,none⟩ (.int .i64 (((f1+1) % G.r1:Nat):Int))).setCell ⟨G.P,9,none⟩ (.int .i64 (r.length:Int))):=by
 have dp:=h.d.p
 have dl:=h.d.lo
 have hb1:=h.bd.b1
 have hfl:H.ff.length=r.length+1:=by rw[hff];rfl
 have hsm:=h.bd.s3
 have hrr:=h.r
 rw[hff] at hrr
 have he:∀ q,q≠G.P→((W.setCell ⟨G.P,8,none⟩ (.int .i64 (((f1+1) % G.r1:Nat):Int))).setCell ⟨G.P,9,none⟩ (.int .i64 (r.length:Int))).heap[q]?=W.heap[q]?:=fun q hq=>(heap_setCell_other _ _ _ _ (by exact hq)).trans (heap_setCell_other _ _ _ _ (by exact hq))
 have hb:Below w0.heap.size w0 ((W.setCell ⟨G.P,8,none⟩ (.int .i64 (((f1+1) % G.r1:Nat):Int))).setCell ⟨G.P,9,none⟩ (.int .i64 (r.length:Int))):=(h.b.setCell (by exact dl.2.1) _).setCell (by exact dl.2.1) _
 have hz:W.heap.size≤((W.setCell ⟨G.P,8,none⟩ (.int .i64 (((f1+1) % G.r1:Nat):Int))).setCell ⟨G.P,9,none⟩ (.int .i64 (r.length:Int))).heap.size:=(((Below.refl 0 W).setCell (Nat.zero_le _) _).setCell (Nat.zero_le _) _).size
 refine⟨(h.p.set 8 _).set 9 _,h.f.same (he _ dp.1),h.x.at0 (he _ dp.2.1) hb,hrr.tail.keep (he _ dp.2.2.1),h.rz.up (he _ dp.2.2.1),h.q.keep (he _ dp.2.2.2.1),h.qz.up (he _ dp.2.2.2.1),?_,hb,⟨Nat.lt_of_lt_of_le h.hi.1 hz,Nat.lt_of_lt_of_le h.hi.2.1 hz,Nat.lt_of_lt_of_le h.hi.2.2 hz⟩,h.d,⟨h.bd.e1,h.bd.e3,h.bd.m1,h.bd.m2,h.bd.nk,⟨Nat.mod_lt _ (by omega),hb1.2.1,by show r.length≤_;omega⟩,h.bd.b3,h.bd.lo,fun j hj=>?_,h.bd.s4⟩⟩
 ·obtain⟨es,clock,q1,q2⟩:=h.m
  exact⟨es,clock,(he _ dp.2.2.2.2).trans q1,q2⟩
 ·have hj':j+1<H.ff.length:=by rw[hfl];have:j<r.length:=hj;omega
  have e:r[j]'(hj)=H.ff[j+1]:=by simp[hff]
  show (r[j]'(hj)).l.length≤_
  rw[e]
  exact hsm (j+1) hj'
theorem lh.setCell {w0:World} {G:Lg} {H:Ho} {f1 f3:Nat} {hs:Nat→Hd} {nm:Nat} {D:DataW Unit} {W:World} (h:lh w0 G H f1 f3 hs nm D W) {B x:Nat} (hB:lhU G B) (hx:B≤x) (o:Nat) (v:Value):lh w0 G H f1 f3 hs nm D (W.setCell ⟨x,o,none⟩ v):=by
 have:=h.put hB hx o [v]
 simpa[World.setCells] using this
theorem ring5.one {w0 W:World} {g room first:Nat} {f:R5} {r:List R5} (h:ring5 w0 W g room first (f :: r)):ring5 w0 W g room first [f]:=fun i hi=>by
 have e:i=0:=by simpa using hi
 subst e;obtain⟨ao,m,c,h1,h2⟩:=h 0 (by simp)
 exact⟨ao,m,c,by simpa using h1,by simpa using h2⟩
theorem look_one {w0 w:World} {G:Lg} {H:Ho} {f1 f3:Nat} {hs:Nat→Hd} {nm:Nat} {D:DataW Unit} (h:lh w0 G H f1 f3 hs nm D w) {f:R5} {r:List R5} (hff:H.ff=f :: r) :
  Calls Tryz.prog 179 #[.pointer (some ⟨G.P,7,none⟩),.int .i64 1] w fun e w'=>∃ gx kx ao m c,e = .returned (.slice (some ⟨gx,0,none⟩) 1 kx)∧(w.heap.size≤gx∧gx<w'.heap.size∧1≤kx∧w'.rangeAt gx 0 [.bool f.e,.int .u32 (f.i:Int),.bool f.r,.int .i64 f.d,.slice ao m c]∧isBytes w0 ao m c f.l)∧Below w.heap.size w w':=by
 have hr:=h.r
 rw[hff] at hr
 have hb1:=h.bd.b1
 have hfl:H.ff.length=r.length+1:=by rw[hff];rfl
 refine (look5_of w0 w G.P 7 G.gr G.r1 f1 [f] H.ff.length 1 (by rw[hfl];simp) (h.p.cell 7 _ rfl) (h.p.cell 8 _ rfl) (h.p.cell 9 _ rfl) hr.one hb1.1 ⟨by omega,hb1.2.1⟩ (by simp;omega)).mono ?_
 rintro e w' ⟨v,bs,rfl,hm,hby,ho,hb⟩;have hl:bs.length=1:=by
  have:=congrArg List.length hm
  simpa using this
 obtain⟨b,rfl⟩:=List.length_eq_one_iff.1 hl
 obtain⟨⟨e,i,rr,d,l⟩,ao,m,c⟩:=b
 have hfe:(⟨e,i,rr,d,l⟩ : R5)=f:=by simpa using hm
 subst hfe;have hby0:=hby 0 (by simp)
 rcases ownsRow_split ho with⟨ev,en⟩|⟨gx,kx,rfl,q1,q2,q3,q4,q5⟩
 ·simp at en
 ·exact⟨gx,kx,ao,m,c,rfl,⟨q1,q2,q3,q5,hby0⟩,hb⟩
set_option maxRecDepth 20000 in
theorem take5_one {w0 w:World} {G:Lg} {H:Ho} {f1 f3:Nat} {hs:Nat→Hd} {nm:Nat} {D:DataW Unit} (h:lh w0 G H f1 f3 hs nm D w) {f:R5} {r:List R5} (hff:H.ff=f :: r) :
  Calls Tryz.prog 160 #[.pointer (some ⟨G.P,7,none⟩),.int .i64 1] w fun e w'=>∃ gx kx ao m c,e = .returned (.slice (some ⟨gx,0,none⟩) 1 kx)∧(w.heap.size≤gx∧gx<w'.heap.size∧1≤kx∧w'.rangeAt gx 0 [.bool f.e,.int .u32 (f.i:Int),.bool f.r,.int .i64 f.d,.slice ao m c]∧isBytes w0 ao m c f.l)∧lh w0 G { H with ff:=r } ((f1+1) % G.r1) f3 hs nm D w'∧(∀ q,q≠G.P→q<w.heap.size→w'.heap[q]?=w.heap[q]?)∧w.heap.size≤w'.heap.size:=by
 have HLK:Hid (Calls Tryz.prog 179 #[.pointer (some ⟨G.P,7,none⟩),.int .i64 1] w fun e w'=>∃ gx kx ao m c,e = .returned (.slice (some ⟨gx,0,none⟩) 1 kx)∧(w.heap.size≤gx∧gx<w'.heap.size∧1≤kx∧w'.rangeAt gx 0 [.bool f.e,.int .u32 (f.i:Int),.bool f.r,.int .i64 f.d,.slice ao m c]∧isBytes w0 ao m c f.l)∧Below w.heap.size w w'):=look_one h hff
 have HL:Hid (lh w0 G H f1 f3 hs nm D w):=h
 have HFF:Hid (H.ff=f :: r):=hff
 have HPL:Hid (G.P<w.heap.size):=h.p.lt
 clear h hff;go_enter Tryz.func160,Tryz.ntmps160
 go_wp2_with fail;refine HLK.out.mono ?_
 rintro e w2 ⟨gx,kx,ao,m,c,rfl,hx,hb⟩;have HL2:Hid (lh w0 G H f1 f3 hs nm D w2):=HL.out.below hb
 have HX:Hid (w.heap.size≤gx∧gx<w2.heap.size∧1≤kx∧w2.rangeAt gx 0 [.bool f.e,.int .u32 (f.i:Int),.bool f.r,.int .i64 f.d,.slice ao m c]∧isBytes w0 ao m c f.l):=hx
 have HB:Hid (Below w.heap.size w w2):=hb
 have y7:=HL2.out.p.cell 7 _ rfl
 have y8:=HL2.out.p.cell 8 _ rfl
 have y9:w2.cell? ⟨G.P,9,none⟩=some (.int .i64 ((r.length:Int)+1)):=by
  have:=HL2.out.p.cell 9 _ rfl
  rw[HFF.out] at this
  exact this
 have z8:=HL2.out.p.free 8
 have z9:=HL2.out.p.free 9
 have hb1:=HL2.out.bd.b1
 have hfl:H.ff.length=r.length+1:=by rw[HFF.out];rfl
 have hrl:r.length≤1000:=by omega
 obtain⟨Q,hQ⟩ : ∃ Q,(f1+1) % G.r1=Q:=⟨_,rfl⟩
 have HQ:Hid ((f1+1) % G.r1=Q):=hQ
 have hwk:IntKind.i64.wrap ((f1:Int)+1)=((f1+1:Nat):Int):=by rw[IntKind.wrap_i64];omega
 have hr0:¬ G.r1=0:=by omega
 have htm:((f1+1:Nat):Int).tmod (G.r1:Int)=(Q:Int):=by rw[← hQ];exact (Int.ofNat_tmod _ _).symm
 have htm2:((f1:Int)+1).tmod (G.r1:Int)=(Q:Int):=htm
 have hwr:IntKind.i64.wrap ((r.length:Int)+1-1)=(r.length:Int):=by rw[IntKind.wrap_i64];omega
 clear HLK HL hx hb hQ;go_wp2_with fail;refine wp_region_still_tail 16 (by kernel_rfl) (by kernel_rfl) ?_
 change wpStill Tryz.prog _ (World.drew w2) (fun a'=>wpList Tryz.prog _ _ _ a' (World.drew w2)) _ _
 have hbd:Below w2.heap.size w2 (World.drew w2):=(Below.refl _ _).drew
 have HL2:Hid (lh w0 G H f1 f3 hs nm D (World.drew w2)):=HL2.out.below hbd
 have HX:Hid (w.heap.size≤gx∧gx<(World.drew w2).heap.size∧1≤kx∧(World.drew w2).rangeAt gx 0 [.bool f.e,.int .u32 (f.i:Int),.bool f.r,.int .i64 f.d,.slice ao m c]∧isBytes w0 ao m c f.l):=HX.out
 have HB:Hid (Below w.heap.size w (World.drew w2)):=HB.out.drew
 have y7:(World.drew w2).cell? ⟨G.P,7,none⟩=some (.slice (some ⟨G.gr,0,none⟩) G.r1 G.r1):=y7
 have y8:(World.drew w2).cell? ⟨G.P,8,none⟩=some (.int .i64 (f1:Int)):=y8
 have y9:(World.drew w2).cell? ⟨G.P,9,none⟩=some (.int .i64 ((r.length:Int)+1)):=y9
 have z8:(World.drew w2).frozen? ⟨G.P,8,none⟩=false:=z8
 have z9:(World.drew w2).frozen? ⟨G.P,9,none⟩=false:=z9
 generalize World.drew w2=w3 at *;simp only[List.take_succ_cons,List.take_zero,List.drop_succ_cons,List.drop_zero]
 repeat still_step
 refine wpStill_nil ?_
 go_wp2_with fail;go_ret;have hfx:=HL2.out.fifo HFF.out
 rw[HQ.out] at hfx
 refine⟨gx,kx,ao,m,c,rfl,⟨HX.out.1,?_,HX.out.2.2.1,?_,HX.out.2.2.2.2⟩,by rw[HQ.out];exact hfx,fun q h1 h2=>?_,?_⟩
 ·exact Nat.lt_of_lt_of_le HX.out.2.1 (((Below.refl 0 w3).setCell (Nat.zero_le _) _).setCell (Nat.zero_le _) _).size
 ·exact rangeAt.up HX.out.2.2.2.1 ((heap_setCell_other _ _ _ _ (by show gx≠G.P;have:=HX.out.1;have:=HPL.out;omega)).trans (heap_setCell_other _ _ _ _ (by show gx≠G.P;have:=HX.out.1;have:=HPL.out;omega)))
 ·exact ((heap_setCell_other _ _ _ _ (by exact h1)).trans (heap_setCell_other _ _ _ _ (by exact h1))).trans (HB.out.block q h2)
 ·exact Nat.le_trans HB.out.size (((Below.refl 0 w3).setCell (Nat.zero_le _) _).setCell (Nat.zero_le _) _).size
def delHo (H:Ho) (F:R5):Ho:=
 if validB F.e F.i F.r F.d F.l.length=true∧passB H.fs F=true then
  (if (H.ff.length:Int)=H.c1 then
   (if H.c2=0 then postHo H (evF 3 0 0 F)
    else match H.ff with
    | []=>H
    | f :: r=>postHo (fHo (postHo H (evF 3 0 0 f)) (r++[F])) (evF 2 0 0 F))
   else postHo (fHo H (H.ff++[F])) (evF 2 0 0 F))
 else H
theorem lh.putF {w0:World} {G:Lg} {H:Ho} {f1 f3:Nat} {hs:Nat→Hd} {nm:Nat} {D:DataW Unit} {W:World} (h:lh w0 G H f1 f3 hs nm D W) (F:R5) (ao:Option Addr) (m c:Nat) (hby:isBytes w0 ao m c F.l) (hl:F.l.length≤1048576) (hroom:H.ff.length<G.r1) (ib:Nat) (hib:W.heap[ib]?=some (.cells #[.bool F.e,.int .u32 (F.i:Int),.bool F.r,.int .i64 F.d,.slice ao m c] 55)) (hne:ib≠G.P∧ib≠G.gr) :
  Calls Tryz.prog 161 #[.pointer (some ⟨G.P,7,none⟩),.slice (some ⟨ib,0,none⟩) 1 1] W fun o w'=>o = .returned (.int .i64 1)∧lh w0 G (fHo H (H.ff++[F])) f1 f3 hs nm D w'∧(∀ b,b≠G.P→b≠G.gr→b<W.heap.size→w'.heap[b]?=W.heap[b]?)∧W.heap.size≤w'.heap.size:=by
 have dp:=h.d.p
 have dm:=h.d.m
 have dg:=h.d.g
 have dl:=h.d.lo
 have hb1:=h.bd.b1
 refine (put5L_any H.c0 H.c2 G.r3 G.gf G.n1 G.kf G.gb G.n2 G.kb G.mb G.gq f3 H.qu.length H.lo H.st w0 W G.P G.gr G.r1 f1 H.ff [F] (some ⟨ib,0,none⟩) 1 1 h.p (by omega) h.rz h.hi.2.1 h.r hb1.1 hb1.2.2 hb1.2.1 ⟨rfl,Nat.le_refl _,fun _=>⟨ib,0,rfl,hne.1,hne.2,lt_of_some hib,fun j hj=>⟨ao,m,c,by
   have hj0:j=0:=by simp at hj;omega
   subst hj0;exact⟨range_block hib,hby⟩⟩⟩⟩ (by omega) 1 (by omega)).mono ?_
 rintro o w' ⟨rfl,hq⟩;have hb':Below w0.heap.size w0 w':=by
  refine⟨hq.o.1.trans h.b.os,hq.o.2.1.trans h.b.tape,hq.o.2.2.trans h.b.output,Nat.le_trans h.b.size hq.s,fun b hb=>?_⟩
  rw[hq.k b (by omega) (by omega) (Nat.lt_of_lt_of_le hb h.b.size)]
  exact h.b.block b hb
 have he:∀ q,q≠G.P→q≠G.gr→q<W.heap.size→w'.heap[q]?=W.heap[q]?:=hq.k
 have hz:=hq.s
 have hi:=h.hi
 have hr1:=hq.r
 have hp1:=hq.p
 refine⟨rfl,⟨?_,h.f.same (he _ (by omega) (by omega) hi.1),h.x.at0 (he _ (by omega) (by omega) h.x.hi) hb',hr1,hq.z,h.q.keep (he _ (by omega) (by omega) hi.2.2),h.qz.up (he _ (by omega) (by omega) hi.2.2),?_,hb',⟨by omega,by omega,by omega⟩,h.d,⟨h.bd.e1,h.bd.e3,h.bd.m1,h.bd.m2,h.bd.nk,⟨hb1.1,hb1.2.1,?_⟩,h.bd.b3,h.bd.lo,?_,h.bd.s4⟩⟩,he,hz⟩
 ·have e2:(fHo H (H.ff++[F])).ff.length=H.ff.length+1:=by simp
  unfold lhL
  rw[e2]
  exact hp1
 ·obtain⟨es,clock,q1,q2⟩:=h.m
  exact⟨es,clock,(he _ (by omega) (by omega) h.m.lt).trans q1,q2⟩
 ·show (H.ff++[F]).length≤_
  simp
  omega
 ·intro j hj;have hj':j<H.ff.length+1:=by simpa using hj
  show ((H.ff++[F])[j]'(by simpa using hj')).l.length≤_
  by_cases e:j<H.ff.length
  ·rw[List.getElem_append_left e]
   exact h.bd.s3 j e
  ·rw[List.getElem_append_right (by omega)]
   simpa using hl
structure itM (w:World) (L:List Value) (t:Int) (FL:List Value) (W:World):Prop where
 p:blk W w.heap.size L 39
 x:blk W (w.heap.size+1) [.int .i64 t] 3
 f:blk W (w.heap.size+1+1) FL 55
 r:blk W (w.heap.size+1+1+1) Z10 39
 b:Below w.heap.size w W
theorem itM.below {w:World} {L:List Value} {t:Int} {FL:List Value} {W W':World} (h:itM w L t FL W) (hb:Below W.heap.size W W'):itM w L t FL W':=⟨h.p.below hb,h.x.below hb,h.f.below hb,h.r.below hb,h.b.trans (hb.mono h.b.size)⟩
theorem itM.new (w:World) (L:List Value) (t:Int) (FL:List Value):itM w L t FL ((((w.alloc (.cells L.toArray 39)).alloc (.cells #[.int .i64 t] 3)).alloc (.cells FL.toArray 55)).alloc (.cells Z10.toArray 39)):=by
 refine⟨(((blk.new w _ 39).alloc _).alloc _).alloc _,?_,?_,?_,((((Below.refl _ _).alloc (Nat.le_refl _) _).alloc (by simp) _).alloc (by simp;omega) _).alloc (by simp;omega) _⟩
 ·have:=((blk.new (w.alloc (.cells L.toArray 39)) [.int .i64 t] 3).alloc (.cells FL.toArray 55)).alloc (.cells Z10.toArray 39)
  simpa using this
 ·have:=(blk.new ((w.alloc (.cells L.toArray 39)).alloc (.cells #[.int .i64 t] 3)) FL 55).alloc (.cells Z10.toArray 39)
  have e:((w.alloc (.cells L.toArray 39)).alloc (.cells #[.int .i64 t] 3)).heap.size=w.heap.size+1+1:=by simp
  rw[e] at this
  exact this
 ·have:=blk.new (((w.alloc (.cells L.toArray 39)).alloc (.cells #[.int .i64 t] 3)).alloc (.cells FL.toArray 55)) Z10 39
  have e:(((w.alloc (.cells L.toArray 39)).alloc (.cells #[.int .i64 t] 3)).alloc (.cells FL.toArray 55)).heap.size=w.heap.size+1+1+1:=by simp
  rw[e] at this
  exact this
end Go.Proofs.YtkfcfigbgmbaiaaGreat
