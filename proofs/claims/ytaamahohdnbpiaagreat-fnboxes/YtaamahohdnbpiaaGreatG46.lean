import Derived.Test.YtaamahohdnbpiaaGreatG44
import Derived.Test.YtaamahohdnbpiaaGreatOU
import Derived.Deep.RegionHeld3
namespace Go.Proofs.YtaamahohdnbpiaaGreat
open Go.RowKit
set_option linter.unusedVariables false
theorem wpStill_offG {ops:Array Oper} {w:World} {Q:Act→Prop} {a:Act} {op:Oper} {L:List Oper} (n:Nat) {j t:Nat} (hj:((ops[j]?).bind (·.dst))=some t) (hw:Region.wanted op (yielded ops a.tmps)=true) (hd:op.dst=some t) (hx:(execOp a.eval op).run Tryz.prog w = .ok (.value (.bool false)) w) (ht:t<a.tmps.size) (hall:(L.take n).all (offB j t)=true) (h:wpStill Tryz.prog ops w Q (L.drop n) ((L.take n).foldl (fun a o=>a.put o.dst undef) (a.put (some t) (.bool false)))):wpStill Tryz.prog ops w Q (op :: L) a:=by
 refine wpStill_ok (.bool false) hw hx ?_
 rw[hd,← List.take_append_drop n L]
 refine wpStill_skips hj _ _ hall ?_ ?_
 ·simp only[Act.put]
  rw[Array.getElem?_setIfInBounds_self_of_lt ht]
 ·exact h
theorem bef_no {a b:R8} (h:befS a b=true):Op.bytesLess (arbA b).toList (arbA a).toList=false∧((arbA b=arbA a∧a.z≤b.z)∨arbA b≠arbA a):=by
 unfold befS at h
 split at h
 ·rename_i e
  have hz:=of_decide_eq_true h
  refine⟨?_,Or.inl ⟨e.symm,by omega⟩⟩
  rw[e,less_lt]
  exact decide_eq_false (List.lt_irrefl _)
 ·rename_i e
  refine⟨?_,Or.inr (fun h=>e h.symm)⟩
  rw[less_lt] at h ⊢
  exact decide_eq_false (fun h2=>List.lt_asymm (of_decide_eq_true h) h2)
set_option maxHeartbeats 4000000 in
set_option maxRecDepth 20000 in
theorem wFirst_any (w:World) (H:Ho) (s:Sl) (b:Nat) (h:isHo w H s) (hb:isBest H.bx b) (hl:H.bx.length≤8) :
  Calls Tryz.prog 28 #[.agg (hoL H s).toArray,.int .i64 (b:Int)] w fun o w'=>o = .returned (.bool true)∧Below w.heap.size w w':=by
 have HB0:Hid (Below w.heap.size w (w.alloc (.cells (hoL H s).toArray 35))):=(Below.refl _ _).alloc (Nat.le_refl _) _
 have HP0:Hid (blk (w.alloc (.cells (hoL H s).toArray 35)) w.heap.size (hoL H s) 35):=blk.new w _ 35
 obtain⟨hbl,hb1,hb2⟩:=hb
 have HBE:Hid (∀ j (hj:j<H.bx.length),j≠b→H.bx[j].x=1→befS H.bx[b] H.bx[j]=true):=hb2
 obtain⟨g2,o2,e2,hc⟩:=h.bx.cells (by intro e;rw[e] at hbl;exact absurd hbl (Nat.not_lt_zero _))
 have HC:Hid (∀ j (hj:j<H.bx.length),∃ ao m c,at8 w g2 (o2+j*8) H.bx[j] ao m c):=hc
 obtain⟨bo,bm,bc,hbat⟩:=hc b hbl
 have HBT:Hid (at8 w g2 (o2+b*8) H.bx[b] bo bm bc):=hbat
 have HLN:Hid (s.n2=H.bx.length):=h.bx.len
 have hcl:=h.bx.cap
 have hn8:s.n2≤8:=by have:=h.bx.len;omega
 have hbn:b<s.n2:=by have:=h.bx.len;omega
 have HE2:Hid (s.a2=some ⟨g2,o2,none⟩):=e2
 obtain⟨b2,hb2e⟩ : ∃ b2,H.bx[b]=b2:=⟨_,rfl⟩
 have HBB:Hid (bm=b2.l.length):=by rw[← hb2e];exact hbat.dat.len
 rw[hb2e] at HBT HBE
 clear h hl hb2 hc hbat hb1 hb2e e2;go_enter Tryz.func28,Tryz.ntmps28
 go_wp2_with fail;go_loopw [5] (fun t wr=>∃ (i:Nat),i≤s.n2∧t = .int .i64 (i:Int)∧blk wr w.heap.size (hoL H s) 35∧Below w.heap.size w wr) (fun t _=>s.n2-(intOf t).toNat)
 case atStart=>exact⟨0,Nat.zero_le _,rfl,HP0.out,HB0.out⟩
 case round=>
  obtain⟨i,hi,rfl,hp,hb⟩:=hrel
  have HPW:Hid (blk wr w.heap.size (hoL H s) 35∧Below w.heap.size w wr):=⟨hp,hb⟩
  clear hp hb HP0 HB0;have HX5:Hid (∀ X,blk X w.heap.size (hoL H s) 35→X.cell? ⟨w.heap.size,5,none⟩=some (.slice (some ⟨g2,o2,none⟩) s.n2 s.k2)):=fun X hX=>by
   have:=hX.cell 5 _ (by unfold hoL;rfl)
   rw[HE2.out] at this
   exact this
  have x5:=HX5.out wr HPW.out.1
  by_cases hlt:i<s.n2
  ·have hil:i<H.bx.length:=by have:=HLN.out;omega
   obtain⟨ao,m,c,hat⟩:=HC.out i hil
   have HAT:Hid (at8 w g2 (o2+i*8) H.bx[i] ao m c):=hat
   have HML:Hid (m=H.bx[i].l.length):=hat.dat.len
   have HBI:Hid (i≠b→H.bx[i].x=1→befS b2 H.bx[i]=true):=HBE.out i hil
   have y0:=(hat.below HPW.out.2).c0
   clear hat;by_cases hib:i=b
   ·subst hib;go_wp2_with fail;go_roundw
    case rel=>exact⟨i+1,by omega,by go_num,HPW.out.1,HPW.out.2⟩
    case measure=>simp[intOf];omega
   ·have hib':((i:Int) == (b:Int))=false:=by simp;omega
    generalize H.bx[i]=b1 at *;by_cases hx:b1.x=1
    ·rw[hx] at y0
     have HBN:Hid (Op.bytesLess (arbA b1).toList (arbA b2).toList=false∧((arbA b1=arbA b2∧b2.z≤b1.z)∨arbA b1≠arbA b2)):=bef_no (HBI.out hib hx)
     have HA1:Hid (∀ X,Below w.heap.size w X→Calls Tryz.prog 16 #[frV b1.e b1.i b1.r b1.d ao m c] X fun o w'=>o = .returned (.string (arbA b1))∧Below X.heap.size X w'):=fun X hX=>by
      have:=specArb_any X b1.e b1.i b1.r b1.d ao m c b1.l (HAT.out.below hX).dat
      unfold arbA
      rw[← HML.out]
      exact this
     have HA2:Hid (∀ X,Below w.heap.size w X→Calls Tryz.prog 16 #[frV b2.e b2.i b2.r b2.d bo bm bc] X fun o w'=>o = .returned (.string (arbA b2))∧Below X.heap.size X w'):=fun X hX=>by
      have:=specArb_any X b2.e b2.i b2.r b2.d bo bm bc b2.l (HBT.out.below hX).dat
      unfold arbA
      rw[← HBB.out]
      exact this
     have HR1:Hid (∀ X,Below w.heap.size w X→X.rangeAt g2 (o2+i*8+3) [.bool b1.e,.int .u32 (b1.i:Int),.bool b1.r,.int .i64 b1.d,.slice ao m c]):=fun X hX=>(HAT.out.below hX).frame
     have HR2:Hid (∀ X,Below w.heap.size w X→X.rangeAt g2 (o2+b*8+3) [.bool b2.e,.int .u32 (b2.i:Int),.bool b2.r,.int .i64 b2.d,.slice bo bm bc]):=fun X hX=>(HBT.out.below hX).frame
     go_wp2_with (first
      | (refine wpList_load_mid (P:=Tryz.prog) rfl 25 _ rfl g2 (o2+i*8+3) rfl [.bool b1.e,.int .u32 (b1.i:Int),.bool b1.r,.int .i64 b1.d,.slice ao m c] _ (HR1.out _ HPW.out.2) Tryz.underlying25 rfl sz93 ?_))
     refine (HA1.out wr HPW.out.2).mono ?_
     rintro o w3 ⟨rfl,hb3⟩;have HP3:Hid (blk w3 w.heap.size (hoL H s) 35∧Below w.heap.size w w3):=⟨HPW.out.1.below hb3,HPW.out.2.trans (hb3.mono HPW.out.2.size)⟩
     clear hb3 HPW x5 y0;have x5:=HX5.out w3 HP3.out.1
     go_wp2_with (first
      | (refine wpList_load_mid (P:=Tryz.prog) rfl 25 _ rfl g2 (o2+b*8+3) rfl [.bool b2.e,.int .u32 (b2.i:Int),.bool b2.r,.int .i64 b2.d,.slice bo bm bc] _ (HR2.out _ HP3.out.2) Tryz.underlying25 rfl sz93 ?_))
     refine (HA2.out w3 HP3.out.2).mono ?_
     rintro o w4 ⟨rfl,hb4⟩;have HP4:Hid (blk w4 w.heap.size (hoL H s) 35∧Below w.heap.size w w4):=⟨HP3.out.1.below hb4,HP3.out.2.trans (hb4.mono HP3.out.2.size)⟩
     clear hb4 HP3 x5;have x5:=HX5.out w4 HP4.out.1
     have y2:=(HAT.out.below HP4.out.2).c2
     have q2:=(HBT.out.below HP4.out.2).c2
     have hless:=HBN.out.1
     have HCS:Hid ((arbA b1=arbA b2∧b2.z≤b1.z)∨arbA b1≠arbA b2):=HBN.out.2
     clear HA1 HA2 HR1 HR2;generalize arbA b1=A1 at *;generalize arbA b2=A2 at *;go_wp2_with fail;rcases HCS.out with⟨eA,hz⟩|hne
     ·subst eA;have hzd:decide (b1.z<b2.z)=false:=decide_eq_false (by omega)
      refine wp_region_still_lit (by kernel_rfl) (by kernel_rfl) ?_
      change wpStill Tryz.prog _ (World.drew w4) (fun a'=>Exit.then _ _ Exit.normal a' (World.drew w4)) _ _
      have x5:(World.drew w4).cell? ⟨w.heap.size,5,none⟩=some (.slice (some ⟨g2,o2,none⟩) s.n2 s.k2):=x5
      have y2:(World.drew w4).cell? ⟨g2,o2+i*8+2,none⟩=some (.int .i64 b1.z):=y2
      have q2:(World.drew w4).cell? ⟨g2,o2+b*8+2,none⟩=some (.int .i64 b2.z):=q2
      have HP5:Hid (blk (World.drew w4) w.heap.size (hoL H s) 35∧Below w.heap.size w (World.drew w4)):=⟨HP4.out.1.below (Below.refl _ _).drew,HP4.out.2.drew⟩
      clear HP4;generalize World.drew w4=v0 at *;repeat still_step
      refine wpStill_nil ?_
      go_wp2_with fail;go_roundw
      case rel=>exact⟨i+1,by omega,by go_num,HP5.out.1,HP5.out.2⟩
      case measure=>simp[intOf];omega
     ·have hne':(A1.toList == A2.toList)=false:=by
       rw[beq_eq_false_iff_ne]
       exact fun h=>hne (toList_ext h)
      refine wp_region_still_lit (by kernel_rfl) (by kernel_rfl) ?_
      change wpStill Tryz.prog _ (World.drew w4) (fun a'=>Exit.then _ _ Exit.normal a' (World.drew w4)) _ _
      have x5:(World.drew w4).cell? ⟨w.heap.size,5,none⟩=some (.slice (some ⟨g2,o2,none⟩) s.n2 s.k2):=x5
      have y2:(World.drew w4).cell? ⟨g2,o2+i*8+2,none⟩=some (.int .i64 b1.z):=y2
      have q2:(World.drew w4).cell? ⟨g2,o2+b*8+2,none⟩=some (.int .i64 b2.z):=q2
      have HP5:Hid (blk (World.drew w4) w.heap.size (hoL H s) 35∧Below w.heap.size w (World.drew w4)):=⟨HP4.out.1.below (Below.refl _ _).drew,HP4.out.2.drew⟩
      clear HP4;generalize World.drew w4=v0 at *;iterate 7 still_step
      refine wpStill_offG 13 (j:=7) (t:=48) rfl rfl rfl rfl (by simp) rfl ?_
      simp only[List.take_succ_cons,List.take_zero,List.drop_succ_cons,List.drop_zero,List.foldl_cons,List.foldl_nil,Act.put,aA,aB,aC]
      still_step
      still_step
      refine wpStill_nil ?_
      go_wp2_with fail;go_roundw
      case rel=>exact⟨i+1,by omega,by go_num,HP5.out.1,HP5.out.2⟩
      case measure=>simp[intOf];omega
    ·have hx':(b1.x == 1)=false:=by simpa using hx
     have hx2:(b1.x != 1)=true:=by simpa using hx
     go_wp2_with fail;go_roundw
     case rel=>exact⟨i+1,by omega,by go_num,HPW.out.1,HPW.out.2⟩
     case measure=>simp[intOf];omega
  ·have hin:i=s.n2:=by omega
   subst hin;go_wp2_with fail;go_ret;exact⟨rfl,HPW.out.2⟩
set_option maxHeartbeats 4000000 in
set_option maxRecDepth 20000 in
theorem wEvent_same (w:World) (b:R8) (a a':Option Addr) (m c c':Nat) (h:isBytes w a m c b.l) (h':isBytes w a' m c' b.l) (hm:m≤1048576) :
  Calls Tryz.prog 80 #[.agg [.int .i64 b.x,.int .i64 b.y,.int .i64 b.z,.bool b.e,.int .u32 (b.i:Int),.bool b.r,.int .i64 b.d,.slice a m c].toArray,.agg [.int .i64 b.x,.int .i64 b.y,.int .i64 b.z,.bool b.e,.int .u32 (b.i:Int),.bool b.r,.int .i64 b.d,.slice a' m c'].toArray] w fun o w'=>o = .returned (.bool true)∧Below w.heap.size w w':=by
 have HB:Hid (Below w.heap.size w ((w.alloc (.cells [.int .i64 b.x,.int .i64 b.y,.int .i64 b.z,.bool b.e,.int .u32 (b.i:Int),.bool b.r,.int .i64 b.d,.slice a m c].toArray 46)).alloc (.cells [.int .i64 b.x,.int .i64 b.y,.int .i64 b.z,.bool b.e,.int .u32 (b.i:Int),.bool b.r,.int .i64 b.d,.slice a' m c'].toArray 46))):=((Below.refl _ _).alloc (Nat.le_refl _) _).alloc (by simp) _
 have HP:Hid (blk ((w.alloc (.cells [.int .i64 b.x,.int .i64 b.y,.int .i64 b.z,.bool b.e,.int .u32 (b.i:Int),.bool b.r,.int .i64 b.d,.slice a m c].toArray 46)).alloc (.cells [.int .i64 b.x,.int .i64 b.y,.int .i64 b.z,.bool b.e,.int .u32 (b.i:Int),.bool b.r,.int .i64 b.d,.slice a' m c'].toArray 46)) w.heap.size [.int .i64 b.x,.int .i64 b.y,.int .i64 b.z,.bool b.e,.int .u32 (b.i:Int),.bool b.r,.int .i64 b.d,.slice a m c] 46∧blk ((w.alloc (.cells [.int .i64 b.x,.int .i64 b.y,.int .i64 b.z,.bool b.e,.int .u32 (b.i:Int),.bool b.r,.int .i64 b.d,.slice a m c].toArray 46)).alloc (.cells [.int .i64 b.x,.int .i64 b.y,.int .i64 b.z,.bool b.e,.int .u32 (b.i:Int),.bool b.r,.int .i64 b.d,.slice a' m c'].toArray 46)) (w.heap.size+1) [.int .i64 b.x,.int .i64 b.y,.int .i64 b.z,.bool b.e,.int .u32 (b.i:Int),.bool b.r,.int .i64 b.d,.slice a' m c'] 46):=by
  refine⟨(blk.new w _ 46).alloc _,?_⟩
  have:=blk.new (w.alloc (.cells [.int .i64 b.x,.int .i64 b.y,.int .i64 b.z,.bool b.e,.int .u32 (b.i:Int),.bool b.r,.int .i64 b.d,.slice a m c].toArray 46)) [.int .i64 b.x,.int .i64 b.y,.int .i64 b.z,.bool b.e,.int .u32 (b.i:Int),.bool b.r,.int .i64 b.d,.slice a' m c'] 46
  have e:(w.alloc (.cells [.int .i64 b.x,.int .i64 b.y,.int .i64 b.z,.bool b.e,.int .u32 (b.i:Int),.bool b.r,.int .i64 b.d,.slice a m c].toArray 46)).heap.size=w.heap.size+1:=by simp
  rw[e] at this
  exact this
 have HW:Hid (∀ X,Below w.heap.size w X→Calls Tryz.prog 21 #[frV b.e b.i b.r b.d a m c,frV b.e b.i b.r b.d a' m c'] X fun o w'=>o = .returned (.bool true)∧Below X.heap.size X w'):=fun X hX=>wFrame_same X _ _ _ _ _ _ _ _ (h.below hX) _ _ (h'.below hX) hm
 have y0:=HP.out.1.cell 0 _ rfl
 have y1:=HP.out.1.cell 1 _ rfl
 have y2:=HP.out.1.cell 2 _ rfl
 have z0:=HP.out.2.cell 0 _ rfl
 have z1:=HP.out.2.cell 1 _ rfl
 have z2:=HP.out.2.cell 2 _ rfl
 have HR1:Hid (((w.alloc (.cells [.int .i64 b.x,.int .i64 b.y,.int .i64 b.z,.bool b.e,.int .u32 (b.i:Int),.bool b.r,.int .i64 b.d,.slice a m c].toArray 46)).alloc (.cells [.int .i64 b.x,.int .i64 b.y,.int .i64 b.z,.bool b.e,.int .u32 (b.i:Int),.bool b.r,.int .i64 b.d,.slice a' m c'].toArray 46)).rangeAt w.heap.size 3 [.bool b.e,.int .u32 (b.i:Int),.bool b.r,.int .i64 b.d,.slice a m c]):=blk.loadAt [.int .i64 b.x,.int .i64 b.y,.int .i64 b.z] [.bool b.e,.int .u32 (b.i:Int),.bool b.r,.int .i64 b.d,.slice a m c] [] HP.out.1
 have HR2:Hid (((w.alloc (.cells [.int .i64 b.x,.int .i64 b.y,.int .i64 b.z,.bool b.e,.int .u32 (b.i:Int),.bool b.r,.int .i64 b.d,.slice a m c].toArray 46)).alloc (.cells [.int .i64 b.x,.int .i64 b.y,.int .i64 b.z,.bool b.e,.int .u32 (b.i:Int),.bool b.r,.int .i64 b.d,.slice a' m c'].toArray 46)).rangeAt (w.heap.size+1) 3 [.bool b.e,.int .u32 (b.i:Int),.bool b.r,.int .i64 b.d,.slice a' m c']):=blk.loadAt [.int .i64 b.x,.int .i64 b.y,.int .i64 b.z] [.bool b.e,.int .u32 (b.i:Int),.bool b.r,.int .i64 b.d,.slice a' m c'] [] HP.out.2
 clear h h' hm;go_enter Tryz.func80,Tryz.ntmps80
 go_wp2_with (first
  | (refine wpList_load_midG (by first | rfl | (simp[Region.wanted,yielded];done) | (simp[Region.wanted,yielded];omega)) 25 _ rfl w.heap.size 3 rfl [.bool b.e,.int .u32 (b.i:Int),.bool b.r,.int .i64 b.d,.slice a m c] _ HR1.out Tryz.underlying25 rfl sz93 ?_)
  | (refine wpList_load_midG (by first | rfl | (simp[Region.wanted,yielded];done) | (simp[Region.wanted,yielded];omega)) 25 _ rfl (w.heap.size+1) 3 rfl [.bool b.e,.int .u32 (b.i:Int),.bool b.r,.int .i64 b.d,.slice a' m c'] _ HR2.out Tryz.underlying25 rfl sz93 ?_))
 refine (HW.out _ HB.out).mono ?_
 rintro o w2 ⟨rfl,hb2⟩;have HE:Hid (Below w.heap.size w w2):=HB.out.trans (hb2.mono HB.out.size)
 clear hb2 HP HR1 HR2 y0 y1 y2 z0 z1 z2;go_wp2_with fail;go_ret;exact⟨rfl,HE.out⟩
theorem at8.m {w:World} {g o:Nat} {b:R8} {ao:Option Addr} {m c:Nat} (h:at8 w g o b ao m c):at8 w g o b ao b.l.length c:=by
 have e:m=b.l.length:=h.dat.len
 subst e;exact h
structure whB (w:World) (T:Ho) (s1 s2:Sl) (W:World):Prop where
 p:blk W w.heap.size (hoL T s1) 35
 q:blk W (w.heap.size+1) (hoL T s2) 35
 b:Below w.heap.size w W
theorem whB.below {w:World} {T:Ho} {s1 s2:Sl} {W W':World} (h:whB w T s1 s2 W) (hb:Below W.heap.size W W'):whB w T s1 s2 W':=⟨h.p.below hb,h.q.below hb,h.b.trans (hb.mono h.b.size)⟩
theorem whB.new (w:World) (T:Ho) (s1 s2:Sl):whB w T s1 s2 ((w.alloc (.cells (hoL T s1).toArray 35)).alloc (.cells (hoL T s2).toArray 35)):=by
 refine⟨(blk.new w _ 35).alloc _,?_,((Below.refl _ _).alloc (Nat.le_refl _) _).alloc (by simp) _⟩
 have:=blk.new (w.alloc (.cells (hoL T s1).toArray 35)) (hoL T s2) 35
 have e:(w.alloc (.cells (hoL T s1).toArray 35)).heap.size=w.heap.size+1:=by simp
 rw[e] at this
 exact this
theorem new97 {w:World} (l:List Value) (hl:l.length=8):blk (World.setCells (w.alloc (.cells [.int .i64 0,.int .i64 0,.int .i64 0,.bool false,.int .u32 0,.bool false,.int .i64 0,.slice none 0 0].toArray 97)) w.heap.size 0 l) w.heap.size l 97∧Below w.heap.size w (World.setCells (w.alloc (.cells [.int .i64 0,.int .i64 0,.int .i64 0,.bool false,.int .u32 0,.bool false,.int .i64 0,.slice none 0 0].toArray 97)) w.heap.size 0 l):=by
 refine⟨?_,setCells_below (Nat.le_refl _) 0 l ((Below.refl _ _).alloc (Nat.le_refl _) _)⟩
 have:=blk.put [] [.int .i64 0,.int .i64 0,.int .i64 0,.bool false,.int .u32 0,.bool false,.int .i64 0,.slice none 0 0] [] l (w:=w.alloc (.cells [.int .i64 0,.int .i64 0,.int .i64 0,.bool false,.int .u32 0,.bool false,.int .i64 0,.slice none 0 0].toArray 97)) (b:=w.heap.size) (T:=97) (by simpa using blk.new w _ 97) (by rw[hl];rfl)
 rw[List.nil_append,List.append_nil] at this
 exact this
theorem hoL_cf (T:Ho) (s:Sl):hoL T s=[]++[.int .i64 T.c0,.int .i64 T.c1,.int .i64 T.c2,.int .i64 T.c3]++[.slice s.a1 s.n1 s.k1,.slice s.a2 s.n2 s.k2,.slice s.a3 s.n3 s.k3,.slice s.a4 s.n4 s.k4,.int .i64 T.lo,.int .i64 T.st]:=rfl
theorem sz29c:(Tryz.prog.info? 29).map (·.size)=some 4:=by kernel_rfl
set_option maxHeartbeats 8000000 in
set_option maxRecDepth 40000 in
theorem wHost_same (w:World) (T:Ho) (s1 s2:Sl) (h1:isHo w T s1) (h2:isHo w T s2) (hok:okHo T) (hfs:T.fs=[]) (hff:T.ff=[]) :
  Calls Tryz.prog 31 #[.agg (hoL T s1).toArray,.agg (hoL T s2).toArray] w fun o w'=>o = .returned (.bool true)∧Below w.heap.size w w':=by
 have H0:Hid (whB w T s1 s2 ((w.alloc (.cells (hoL T s1).toArray 35)).alloc (.cells (hoL T s2).toArray 35))):=whB.new w T s1 s2
 have HI:Hid (isHo w T s1∧isHo w T s2):=⟨h1,h2⟩
 have HOK:Hid (okHo T):=hok
 have e11:s1.n1=0:=by have:=h1.fs.len;rw[hfs] at this;exact this
 have e12:s2.n1=0:=by have:=h2.fs.len;rw[hfs] at this;exact this
 have e31:s1.n3=0:=by have:=h1.ff.len;rw[hff] at this;exact this
 have e32:s2.n3=0:=by have:=h2.ff.len;rw[hff] at this;exact this
 have e2:s2.n2=s1.n2:=by have:=h1.bx.len;have:=h2.bx.len;omega
 have e4:s2.n4=s1.n4:=by have:=h1.qu.len;have:=h2.qu.len;omega
 have HL2:Hid (s1.n2=T.bx.length∧s1.n2≤8):=⟨h1.bx.len,by have:=h1.bx.len;have:=hok.n2;omega⟩
 have HL4:Hid (s1.n4=T.qu.length∧s1.n4≤1000):=⟨h1.qu.len,by have:=h1.qu.len;have:=hok.n4;omega⟩
 have hc21:=h1.bx.cap
 have hc22:=h2.bx.cap
 have hc41:=h1.qu.cap
 have hc42:=h2.qu.cap
 have HR1:Hid (((w.alloc (.cells (hoL T s1).toArray 35)).alloc (.cells (hoL T s2).toArray 35)).rangeAt w.heap.size 0 [.int .i64 T.c0,.int .i64 T.c1,.int .i64 T.c2,.int .i64 T.c3]):=blk.loadAt [] [.int .i64 T.c0,.int .i64 T.c1,.int .i64 T.c2,.int .i64 T.c3] _ (by rw[← hoL_cf];exact H0.out.p)
 have HR2:Hid (((w.alloc (.cells (hoL T s1).toArray 35)).alloc (.cells (hoL T s2).toArray 35)).rangeAt (w.heap.size+1) 0 [.int .i64 T.c0,.int .i64 T.c1,.int .i64 T.c2,.int .i64 T.c3]):=blk.loadAt [] [.int .i64 T.c0,.int .i64 T.c1,.int .i64 T.c2,.int .i64 T.c3] _ (by rw[← hoL_cf];exact H0.out.q)
 have p4:=H0.out.p.cell 4 _ (by unfold hoL;rfl)
 have p5:=H0.out.p.cell 5 _ (by unfold hoL;rfl)
 have p6:=H0.out.p.cell 6 _ (by unfold hoL;rfl)
 have p7:=H0.out.p.cell 7 _ (by unfold hoL;rfl)
 have p8:=H0.out.p.cell 8 _ (by unfold hoL;rfl)
 have p9:=H0.out.p.cell 9 _ (by unfold hoL;rfl)
 have q4:=H0.out.q.cell 4 _ (by unfold hoL;rfl)
 have q5:=H0.out.q.cell 5 _ (by unfold hoL;rfl)
 have q6:=H0.out.q.cell 6 _ (by unfold hoL;rfl)
 have q7:=H0.out.q.cell 7 _ (by unfold hoL;rfl)
 have q8:=H0.out.q.cell 8 _ (by unfold hoL;rfl)
 have q9:=H0.out.q.cell 9 _ (by unfold hoL;rfl)
 rw[e11] at p4
 rw[e12] at q4
 rw[e31] at p6
 rw[e32] at q6
 rw[e2] at q5
 rw[e4] at q7
 clear h1 h2 hok hfs hff;go_enter Tryz.func31,Tryz.ntmps31
 go_wp2_with (first
  | (refine wpList_load_mid (P:=Tryz.prog) rfl 29 _ rfl w.heap.size 0 rfl [.int .i64 T.c0,.int .i64 T.c1,.int .i64 T.c2,.int .i64 T.c3] _ HR1.out Tryz.underlying29 rfl sz29c ?_)
  | (refine wpList_load_mid (P:=Tryz.prog) rfl 29 _ rfl (w.heap.size+1) 0 rfl [.int .i64 T.c0,.int .i64 T.c1,.int .i64 T.c2,.int .i64 T.c3] _ HR2.out Tryz.underlying29 rfl sz29c ?_))
 have HX:Hid (∀ X,whB w T s1 s2 X→X.cell? ⟨w.heap.size,4,none⟩=some (.slice s1.a1 0 s1.k1)∧X.cell? ⟨w.heap.size,5,none⟩=some (.slice s1.a2 s1.n2 s1.k2)∧X.cell? ⟨w.heap.size,6,none⟩=some (.slice s1.a3 0 s1.k3)∧X.cell? ⟨w.heap.size,7,none⟩=some (.slice s1.a4 s1.n4 s1.k4)∧X.cell? ⟨w.heap.size+1,5,none⟩=some (.slice s2.a2 s1.n2 s2.k2)∧X.cell? ⟨w.heap.size+1,7,none⟩=some (.slice s2.a4 s1.n4 s2.k4)):=fun X hX=>by
  have r1:=hX.p.cell 4 _ (by unfold hoL;rfl)
  have r2:=hX.p.cell 5 _ (by unfold hoL;rfl)
  have r3:=hX.p.cell 6 _ (by unfold hoL;rfl)
  have r4:=hX.p.cell 7 _ (by unfold hoL;rfl)
  have r5:=hX.q.cell 5 _ (by unfold hoL;rfl)
  have r6:=hX.q.cell 7 _ (by unfold hoL;rfl)
  rw[e11] at r1
  rw[e31] at r3
  rw[e2] at r5
  rw[e4] at r6
  exact⟨r1,r2,r3,r4,r5,r6⟩
 have hk22:s1.n2≤s2.k2:=by omega
 have hk42:s1.n4≤s2.k4:=by omega
 clear HR1 HR2 p4 p5 p6 p7 p8 p9 q4 q5 q6 q7 q8 q9 hc22 hc42 e11 e12 e31 e32;generalize ((w.alloc (.cells (hoL T s1).toArray 35)).alloc (.cells (hoL T s2).toArray 35))=vA at *;have p4:=(HX.out vA H0.out).1
 go_loopw [5] (fun t wr=>t = .int .i64 0∧wr=vA) (fun _ _=>0)
 case atStart=>exact⟨rfl,rfl⟩
 case round=>
  obtain⟨rfl,rfl⟩:=hrel
  go_wp2_with fail;clear p4;go_loopw [6] (fun t wr=>∃ i:Nat,i≤s1.n2∧t = .int .i64 (i:Int)∧whB w T s1 s2 wr) (fun t _=>s1.n2-(intOf t).toNat)
  case atStart=>exact⟨0,Nat.zero_le _,rfl,H0.out⟩
  case round=>
   obtain⟨i,hi,rfl,hB⟩:=hrel
   have HBW:Hid (whB w T s1 s2 wr):=hB
   clear hB;have x5:=(HX.out wr HBW.out).2.1
   have hn8:=HL2.out.2
   by_cases hlt:i<s1.n2
   ·have hil:i<T.bx.length:=by have:=HL2.out.1;omega
    obtain⟨g1,o1,ea1,hc1⟩:=HI.out.1.bx.cells (by intro e;rw[e] at hil;exact absurd hil (Nat.not_lt_zero _))
    obtain⟨g2,o2,ea2,hc2⟩:=HI.out.2.bx.cells (by intro e;rw[e] at hil;exact absurd hil (Nat.not_lt_zero _))
    obtain⟨a1,m1,k1,hat1⟩:=hc1 i hil
    obtain⟨a2,m2,k2,hat2⟩:=hc2 i hil
    have HAT:Hid (at8 w g1 (o1+i*8) T.bx[i] a1 T.bx[i].l.length k1∧at8 w g2 (o2+i*8) T.bx[i] a2 T.bx[i].l.length k2):=⟨hat1.m,hat2.m⟩
    have HLE:Hid (T.bx[i].l.length≤1048576):=HOK.out.le.bd i hil
    rw[ea1] at x5
    clear hat1 hat2 hc1 hc2;generalize T.bx[i]=b at *;have HXX:Hid (∀ X,whB w T s1 s2 X→X.cell? ⟨w.heap.size+1,5,none⟩=some (.slice (some ⟨g2,o2,none⟩) s1.n2 s2.k2)):=fun X hX=>by have:=(HX.out X hX).2.2.2.2.1;rw[ea2] at this;exact this
    clear ea1 ea2;have HWF:Hid (∀ X,Below w.heap.size w X→Calls Tryz.prog 21 #[frV b.e b.i b.r b.d a1 b.l.length k1,frV b.e b.i b.r b.d a2 b.l.length k2] X fun o w'=>o = .returned (.bool true)∧Below X.heap.size X w'):=fun X hX=>wFrame_same X _ _ _ _ _ _ _ _ (HAT.out.1.below hX).dat _ _ (HAT.out.2.below hX).dat HLE.out
    have HN1:Hid (blk (World.setCells (wr.alloc (.cells [.int .i64 0,.int .i64 0,.int .i64 0,.bool false,.int .u32 0,.bool false,.int .i64 0,.slice none 0 0].toArray 97)) wr.heap.size 0 [.int .i64 b.x,.int .i64 b.y,.int .i64 b.z,.bool b.e,.int .u32 (b.i:Int),.bool b.r,.int .i64 b.d,.slice a1 b.l.length k1]) wr.heap.size [.int .i64 b.x,.int .i64 b.y,.int .i64 b.z,.bool b.e,.int .u32 (b.i:Int),.bool b.r,.int .i64 b.d,.slice a1 b.l.length k1] 97∧Below wr.heap.size wr (World.setCells (wr.alloc (.cells [.int .i64 0,.int .i64 0,.int .i64 0,.bool false,.int .u32 0,.bool false,.int .i64 0,.slice none 0 0].toArray 97)) wr.heap.size 0 [.int .i64 b.x,.int .i64 b.y,.int .i64 b.z,.bool b.e,.int .u32 (b.i:Int),.bool b.r,.int .i64 b.d,.slice a1 b.l.length k1])):=new97 _ rfl
    have HN1b:Hid (blk (wr.alloc (.cells [.int .i64 0,.int .i64 0,.int .i64 0,.bool false,.int .u32 0,.bool false,.int .i64 0,.slice none 0 0].toArray 97)) wr.heap.size [.int .i64 0,.int .i64 0,.int .i64 0,.bool false,.int .u32 0,.bool false,.int .i64 0,.slice none 0 0] 97):=blk.new wr _ 97
    go_wp2_with (first
     | (refine wpList_load_mid (P:=Tryz.prog) rfl 97 _ rfl g1 (o1+i*8) rfl [.int .i64 b.x,.int .i64 b.y,.int .i64 b.z,.bool b.e,.int .u32 (b.i:Int),.bool b.r,.int .i64 b.d,.slice a1 b.l.length k1] _ (HAT.out.1.below HBW.out.b).range Tryz.underlying97 rfl sz95 ?_)
     | (refine wpList_store_mid (P:=Tryz.prog) rfl 97 _ _ rfl wr.heap.size 0 [.int .i64 b.x,.int .i64 b.y,.int .i64 b.z,.bool b.e,.int .u32 (b.i:Int),.bool b.r,.int .i64 b.d,.slice a1 b.l.length k1].toArray rfl rfl (HN1b.out.there 0 8 (by simp)) sz95 (one8 _ _ _ _ _ _ _ _ _ _) ?_;generalize hWn:World.setCells _ wr.heap.size 0 _=u2;have HU2:Hid (whB w T s1 s2 u2∧blk u2 wr.heap.size [.int .i64 b.x,.int .i64 b.y,.int .i64 b.z,.bool b.e,.int .u32 (b.i:Int),.bool b.r,.int .i64 b.d,.slice a1 b.l.length k1] 97):=(by rw[← hWn];exact⟨HBW.out.below HN1.out.2,HN1.out.1⟩);clear hWn HN1 HN1b x5;have x5:=HXX.out u2 HU2.out.1)
     | (refine wpList_load_mid (P:=Tryz.prog) rfl 97 _ rfl g2 (o2+i*8) rfl [.int .i64 b.x,.int .i64 b.y,.int .i64 b.z,.bool b.e,.int .u32 (b.i:Int),.bool b.r,.int .i64 b.d,.slice a2 b.l.length k2] _ (HAT.out.2.below HU2.out.1.b).range Tryz.underlying97 rfl sz95 ?_)
     | (refine wpList_store_mid (P:=Tryz.prog) rfl 97 _ _ rfl u2.heap.size 0 [.int .i64 b.x,.int .i64 b.y,.int .i64 b.z,.bool b.e,.int .u32 (b.i:Int),.bool b.r,.int .i64 b.d,.slice a2 b.l.length k2].toArray rfl rfl ((blk.new u2 [.int .i64 0,.int .i64 0,.int .i64 0,.bool false,.int .u32 0,.bool false,.int .i64 0,.slice none 0 0] 97).there 0 8 (by simp)) sz95 (one8 _ _ _ _ _ _ _ _ _ _) ?_;generalize hWn:World.setCells _ u2.heap.size 0 _=u3;have HU3:Hid (whB w T s1 s2 u3∧blk u3 wr.heap.size [.int .i64 b.x,.int .i64 b.y,.int .i64 b.z,.bool b.e,.int .u32 (b.i:Int),.bool b.r,.int .i64 b.d,.slice a1 b.l.length k1] 97∧blk u3 u2.heap.size [.int .i64 b.x,.int .i64 b.y,.int .i64 b.z,.bool b.e,.int .u32 (b.i:Int),.bool b.r,.int .i64 b.d,.slice a2 b.l.length k2] 97):=(by rw[← hWn];have hn:=new97 (w:=u2) [.int .i64 b.x,.int .i64 b.y,.int .i64 b.z,.bool b.e,.int .u32 (b.i:Int),.bool b.r,.int .i64 b.d,.slice a2 b.l.length k2] rfl;exact⟨HU2.out.1.below hn.2,HU2.out.2.below hn.2,hn.1⟩);clear hWn x5;have y0:=HU3.out.2.1.cell 0 _ rfl;have y1:=HU3.out.2.1.cell 1 _ rfl;have y2:=HU3.out.2.1.cell 2 _ rfl;have z0:=HU3.out.2.2.cell 0 _ rfl;have z1:=HU3.out.2.2.cell 1 _ rfl;have z2:=HU3.out.2.2.cell 2 _ rfl;have HF1:Hid (u3.rangeAt wr.heap.size 3 [.bool b.e,.int .u32 (b.i:Int),.bool b.r,.int .i64 b.d,.slice a1 b.l.length k1]):=blk.loadAt [.int .i64 b.x,.int .i64 b.y,.int .i64 b.z] [.bool b.e,.int .u32 (b.i:Int),.bool b.r,.int .i64 b.d,.slice a1 b.l.length k1] [] HU3.out.2.1;have HF2:Hid (u3.rangeAt u2.heap.size 3 [.bool b.e,.int .u32 (b.i:Int),.bool b.r,.int .i64 b.d,.slice a2 b.l.length k2]):=blk.loadAt [.int .i64 b.x,.int .i64 b.y,.int .i64 b.z] [.bool b.e,.int .u32 (b.i:Int),.bool b.r,.int .i64 b.d,.slice a2 b.l.length k2] [] HU3.out.2.2)
     | (refine wpList_load_midG (by first | rfl | (simp[Region.wanted,yielded];done) | (simp[Region.wanted,yielded];omega)) 25 _ rfl wr.heap.size 3 rfl [.bool b.e,.int .u32 (b.i:Int),.bool b.r,.int .i64 b.d,.slice a1 b.l.length k1] _ HF1.out Tryz.underlying25 rfl sz93 ?_)
     | (refine wpList_load_midG (by first | rfl | (simp[Region.wanted,yielded];done) | (simp[Region.wanted,yielded];omega)) 25 _ rfl u2.heap.size 3 rfl [.bool b.e,.int .u32 (b.i:Int),.bool b.r,.int .i64 b.d,.slice a2 b.l.length k2] _ HF2.out Tryz.underlying25 rfl sz93 ?_))
    refine (HWF.out u3 HU3.out.1.b).mono ?_
    rintro o u4 ⟨rfl,hb4⟩;have HE4:Hid (whB w T s1 s2 u4):=HU3.out.1.below hb4
    clear hb4 HU3 HU2 y0 y1 y2 z0 z1 z2 HF1 HF2;go_wp2_with fail;go_roundw
    case rel=>exact⟨i+1,by omega,by go_num,HE4.out⟩
    case measure=>simp[intOf];omega
   ·have hin:i=s1.n2:=by omega
    subst hin;have p6:=(HX.out wr HBW.out).2.2.1
    go_wp2_with fail;clear x5;go_loopw [9] (fun t wq=>t = .int .i64 0∧wq=wr) (fun _ _=>0)
    case atStart=>exact⟨rfl,rfl⟩
    case round=>
     obtain⟨rfl,rfl⟩:=hrel
     go_wp2_with fail;clear p6;go_loopw [10] (fun t wq=>∃ i:Nat,i≤s1.n4∧t = .int .i64 (i:Int)∧whB w T s1 s2 wq) (fun t _=>s1.n4-(intOf t).toNat)
     case atStart=>exact⟨0,Nat.zero_le _,rfl,HBW.out⟩
     case round=>
      obtain⟨i,hi,rfl,hB⟩:=hrel
      have HBQ:Hid (whB w T s1 s2 wr):=hB
      clear hB;have x7:=(HX.out wr HBQ.out).2.2.2.1
      have hn4:=HL4.out.2
      by_cases hlt:i<s1.n4
      ·have hil:i<T.qu.length:=by have:=HL4.out.1;omega
       obtain⟨g1,o1,ea1,hc1⟩:=HI.out.1.qu.cells (by intro e;rw[e] at hil;exact absurd hil (Nat.not_lt_zero _))
       obtain⟨g2,o2,ea2,hc2⟩:=HI.out.2.qu.cells (by intro e;rw[e] at hil;exact absurd hil (Nat.not_lt_zero _))
       obtain⟨a1,m1,k1,hat1⟩:=hc1 i hil
       obtain⟨a2,m2,k2,hat2⟩:=hc2 i hil
       have HAT:Hid (at8 w g1 (o1+i*8) T.qu[i] a1 T.qu[i].l.length k1∧at8 w g2 (o2+i*8) T.qu[i] a2 T.qu[i].l.length k2):=⟨hat1.m,hat2.m⟩
       have HLE:Hid (T.qu[i].l.length≤1048576):=HOK.out.le.qd i hil
       have HX7s1:Hid (∀ X,whB w T s1 s2 X→X.cell? ⟨w.heap.size,7,none⟩=some (.slice (some ⟨g1,o1,none⟩) s1.n4 s1.k4)):=fun X hX=>by have:=(HX.out X hX).2.2.2.1;rw[ea1] at this;exact this
       have HX7s2:Hid (∀ X,whB w T s1 s2 X→X.cell? ⟨w.heap.size+1,7,none⟩=some (.slice (some ⟨g2,o2,none⟩) s1.n4 s2.k4)):=fun X hX=>by have:=(HX.out X hX).2.2.2.2.2;rw[ea2] at this;exact this
       clear hat1 hat2 hc1 hc2 ea1 ea2;generalize T.qu[i]=b at *;go_wp2_with fail;refine wp_region_held (S:=fun X=>whB w T s1 s2 X∧at8 X g1 (o1+i*8) b a1 b.l.length k1∧at8 X g2 (o2+i*8) b a2 b.l.length k2) (by kernel_rfl) ?_
       have hbd:Below wr.heap.size wr (World.drew wr):=(Below.refl _ _).drew
       have hS:whB w T s1 s2 (World.drew wr)∧at8 (World.drew wr) g1 (o1+i*8) b a1 b.l.length k1∧at8 (World.drew wr) g2 (o2+i*8) b a2 b.l.length k2:=⟨HBQ.out.below hbd,HAT.out.1.below (HBQ.out.b.trans (hbd.mono HBQ.out.b.size)),HAT.out.2.below (HBQ.out.b.trans (hbd.mono HBQ.out.b.size))⟩
       clear hbd x7 HBQ;change wpAnyH Tryz.prog _ _ _ _ _ _ _ (World.drew wr)
       generalize World.drew wr=v0 at *;refine wT (i:=0) (v:=.pointer (some ⟨w.heap.size,7,none⟩)) rfl (by kernel_rfl) (by kernel_rfl) (by kernel_rfl) (fun _ _ _ h=>h) (Or.inl ⟨by rfl,?_⟩) hS ?_
       ·intro W hSw;clear hS;go_simp
       simp only[Act.put,aA,aB,aC,aD,aE]
       refine wT (i:=1) (v:=.slice (some ⟨g1,o1,none⟩) s1.n4 s1.k4) rfl (by kernel_rfl) (by kernel_rfl) (by kernel_rfl) (fun _ _ _ h=>h) (Or.inl ⟨by rfl,?_⟩) hS ?_
       ·intro W hSw;clear hS;have x7:W.cell? ⟨w.heap.size,7,none⟩=some (.slice (some ⟨g1,o1,none⟩) s1.n4 s1.k4):=HX7s1.out W hSw.1
        go_simp
       simp only[Act.put,aA,aB,aC,aD,aE,aF];refine wT (i:=2) (v:=.int .i64 (i:Int)) rfl (by kernel_rfl) (by kernel_rfl) (by kernel_rfl) (fun _ _ _ h=>h) (Or.inl ⟨by rfl,?_⟩) hS ?_
       ·intro W hSw;clear hS;go_simp
       simp only[Act.put,aA,aB,aC,aD,aE,aF];refine wT (i:=3) (v:=.pointer (some ⟨g1,o1+i*8,none⟩)) rfl (by kernel_rfl) (by kernel_rfl) (by kernel_rfl) (fun _ _ _ h=>h) (Or.inl ⟨by rfl,?_⟩) hS ?_
       ·intro W hSw;clear hS;go_simp
       simp only[Act.put,aA,aB,aC,aD,aE,aF];refine wT (i:=4) (v:=.agg [.int .i64 b.x,.int .i64 b.y,.int .i64 b.z,.bool b.e,.int .u32 (b.i:Int),.bool b.r,.int .i64 b.d,.slice a1 b.l.length k1].toArray) rfl (by kernel_rfl) (by kernel_rfl) (by kernel_rfl) (fun _ _ _ h=>h) (yieldsIf_load_mid (by rfl) 46 _ rfl g1 (o1+i*8) rfl [.int .i64 b.x,.int .i64 b.y,.int .i64 b.z,.bool b.e,.int .u32 (b.i:Int),.bool b.r,.int .i64 b.d,.slice a1 b.l.length k1] _ (fun X h=>h.2.1.range) Tryz.underlying46 rfl sz129) hS ?_
       simp only[Act.put,aA,aB,aC,aD,aE,aF];refine wT (i:=5) (v:=.pointer (some ⟨w.heap.size+1,7,none⟩)) rfl (by kernel_rfl) (by kernel_rfl) (by kernel_rfl) (fun _ _ _ h=>h) (Or.inl ⟨by rfl,?_⟩) hS ?_
       ·intro W hSw;clear hS;go_simp
       simp only[Act.put,aA,aB,aC,aD,aE,aF];refine wT (i:=6) (v:=.slice (some ⟨g2,o2,none⟩) s1.n4 s2.k4) rfl (by kernel_rfl) (by kernel_rfl) (by kernel_rfl) (fun _ _ _ h=>h) (Or.inl ⟨by rfl,?_⟩) hS ?_
       ·intro W hSw;clear hS;have x7:W.cell? ⟨w.heap.size+1,7,none⟩=some (.slice (some ⟨g2,o2,none⟩) s1.n4 s2.k4):=HX7s2.out W hSw.1
        go_simp
       simp only[Act.put,aA,aB,aC,aD,aE,aF];refine wT (i:=7) (v:=.int .i64 (i:Int)) rfl (by kernel_rfl) (by kernel_rfl) (by kernel_rfl) (fun _ _ _ h=>h) (Or.inl ⟨by rfl,?_⟩) hS ?_
       ·intro W hSw;clear hS;go_simp
       simp only[Act.put,aA,aB,aC,aD,aE,aF];refine wT (i:=8) (v:=.pointer (some ⟨g2,o2+i*8,none⟩)) rfl (by kernel_rfl) (by kernel_rfl) (by kernel_rfl) (fun _ _ _ h=>h) (Or.inl ⟨by rfl,?_⟩) hS ?_
       ·intro W hSw;clear hS;go_simp
       simp only[Act.put,aA,aB,aC,aD,aE,aF];refine wT (i:=9) (v:=.agg [.int .i64 b.x,.int .i64 b.y,.int .i64 b.z,.bool b.e,.int .u32 (b.i:Int),.bool b.r,.int .i64 b.d,.slice a2 b.l.length k2].toArray) rfl (by kernel_rfl) (by kernel_rfl) (by kernel_rfl) (fun _ _ _ h=>h) (yieldsIf_load_mid (by rfl) 46 _ rfl g2 (o2+i*8) rfl [.int .i64 b.x,.int .i64 b.y,.int .i64 b.z,.bool b.e,.int .u32 (b.i:Int),.bool b.r,.int .i64 b.d,.slice a2 b.l.length k2] _ (fun X h=>h.2.2.range) Tryz.underlying46 rfl sz129) hS ?_
       simp only[Act.put,aA,aB,aC,aD,aE,aF];refine wpAnyH_all (rs:=[10]) (by kernel_rfl) (by simp) ?_
       refine AllReadyH.cons rfl (fun K2 hK2=>?_) AllReadyH.nil
       go_simp;refine (wEvent_same v0 b a1 a2 b.l.length k1 k2 hS.2.1.dat hS.2.2.dat HLE.out).mono ?_
       rintro o v1 ⟨rfl,hb⟩;have hS5:whB w T s1 s2 v1∧at8 v1 g1 (o1+i*8) b a1 b.l.length k1∧at8 v1 g2 (o2+i*8) b a2 b.l.length k2:=⟨hS.1.below hb,hS.2.1.below hb,hS.2.2.below hb⟩
       clear hb;go_wp2_with fail;refine hK2.out _ _ hS5 (fun hS2=>?_)
       clear hK2 K2 hS hS5;have hS:=hS2
       clear hS2;refine wT (i:=11) (v:=.bool false) rfl (by kernel_rfl) (by kernel_rfl) (by kernel_rfl) (fun _ _ _ h=>h) (Or.inl ⟨by rfl,?_⟩) hS ?_
       ·intro W hSw;clear hS;go_simp
       simp only[Act.put,aA,aB,aC,aD,aE,aF];refine wpAnyH_done (by kernel_rfl) ?_ _
       have HE:Hid (whB w T s1 s2 v1):=hS.1
       clear hS;go_wp2_with fail;go_roundw
       case rel=>exact⟨i+1,by omega,by go_num,HE.out⟩
       case measure=>simp[intOf];omega
      ·have hin:i=s1.n4:=by omega
       subst hin;go_wp2_with fail;go_ret;exact⟨rfl,HBQ.out.b⟩
end Go.Proofs.YtaamahohdnbpiaaGreat
