import Derived.Test.YtkfcfigbgmbaiaaGreatK48
import Derived.Test.YtkfcfigbgmbaiaaGreatK45
import Derived.Test.YtkfcfigbgmbaiaaGreatK41
namespace Go.Proofs.YtkfcfigbgmbaiaaGreat
open Go.RowKit
set_option linter.unusedVariables false
structure kfA (w:World) (C:Co) (s:Sl) (F:R5) (fa:Option Addr) (fm fc:Nat) (W:World):Prop where
 p:blk W w.heap.size (coL C s) 31
 f:blk W (w.heap.size+1) [.bool F.e,.int .u32 (F.i:Int),.bool F.r,.int .i64 F.d,.slice fa fm fc] 52
 h:isHo W C.ho s
 d:isBytes W fa fm fc F.l
 b:Below w.heap.size w W
theorem kfA.below {w:World} {C:Co} {s:Sl} {F:R5} {fa:Option Addr} {fm fc:Nat} {W W':World} (h:kfA w C s F fa fm fc W) (hb:Below W.heap.size W W'):kfA w C s F fa fm fc W':=⟨h.p.below hb,h.f.below hb,h.h.below hb,h.d.below hb,h.b.trans (hb.mono h.b.size)⟩
theorem kfA.new {w:World} {C:Co} {s:Sl} {F:R5} {fa:Option Addr} {fm fc:Nat} (h:isHo w C.ho s) (hf:isBytes w fa fm fc F.l):kfA w C s F fa fm fc ((w.alloc (.cells (coL C s).toArray 31)).alloc (.cells [.bool F.e,.int .u32 (F.i:Int),.bool F.r,.int .i64 F.d,.slice fa fm fc].toArray 52)):=by
 have hb:Below w.heap.size w ((w.alloc (.cells (coL C s).toArray 31)).alloc (.cells [.bool F.e,.int .u32 (F.i:Int),.bool F.r,.int .i64 F.d,.slice fa fm fc].toArray 52)):=((Below.refl _ _).alloc (Nat.le_refl _) _).alloc (by simp) _
 refine⟨(blk.new w _ 31).alloc _,?_,h.below hb,hf.below hb,hb⟩
 have:=blk.new (w.alloc (.cells (coL C s).toArray 31)) [.bool F.e,.int .u32 (F.i:Int),.bool F.r,.int .i64 F.d,.slice fa fm fc] 52
 have e:(w.alloc (.cells (coL C s).toArray 31)).heap.size=w.heap.size+1:=by simp
 rw[e] at this
 exact this
theorem kfA.put {w:World} {C:Co} {s:Sl} {F:R5} {fa:Option Addr} {fm fc:Nat} {W:World} (h:kfA w C s F fa fm fc W) (h0:isHo w C.ho s) (hf:isBytes w fa fm fc F.l) {x:Nat} (hx:w.heap.size+1<x) (l:List Value):kfA w C s F fa fm fc (W.setCells x 0 l):=by
 have hb:Below w.heap.size w (W.setCells x 0 l):=setCells_below (by omega) 0 l h.b
 exact⟨h.p.other (by omega) _ _,h.f.other (by omega) _ _,h0.below hb,hf.below hb,hb⟩
structure kfS (w:World) (C:Co) (s:Sl) (F:R5) (fa:Option Addr) (fm fc:Nat) (T:Co) (bw:Nat) (sw:Sl) (W:World):Prop where
 a:kfA w C s F fa fm fc W
 q:blk W bw (coL T sw) 41
 t:isHo W T.ho sw
theorem kfS.below {w:World} {C:Co} {s:Sl} {F:R5} {fa:Option Addr} {fm fc:Nat} {T:Co} {bw:Nat} {sw:Sl} {W W':World} (h:kfS w C s F fa fm fc T bw sw W) (hb:Below W.heap.size W W'):kfS w C s F fa fm fc T bw sw W':=⟨h.a.below hb,h.q.below hb,h.t.below hb⟩
structure kfX (w:World) (C:Co) (s:Sl) (F:R5) (fa:Option Addr) (fm fc:Nat) (T:Co) (bw:Nat) (sw:Sl) (w4:World) (T5 bx:Nat) (sx:Wh) (W:World):Prop where
 l:kfS w C s F fa fm fc T bw sw W
 x:blk W bx (coL C sx.sl) 41
 xh:isHo W C.ho sx.sl
 xw:whS w4.heap.size T5 W sx
 z:bw<w4.heap.size∧w.heap.size+1<w4.heap.size∧w4.heap.size≤T5∧T5≤bx
 b4:Below w4.heap.size w4 W
theorem kfX.below {w:World} {C:Co} {s:Sl} {F:R5} {fa:Option Addr} {fm fc:Nat} {T:Co} {bw:Nat} {sw:Sl} {w4:World} {T5 bx:Nat} {sx:Wh} {W W':World} (h:kfX w C s F fa fm fc T bw sw w4 T5 bx sx W) (hb:Below W.heap.size W W'):kfX w C s F fa fm fc T bw sw w4 T5 bx sx W':=⟨h.l.below hb,h.x.below hb,h.xh.below hb,h.xw.same (fun x _ hx=>hb.block x (by have:=h.x.lt;have:=h.z;omega)),h.z,h.b4.trans (hb.mono h.b4.size)⟩
structure kfY (w:World) (C:Co) (s:Sl) (F:R5) (fa:Option Addr) (fm fc:Nat) (T:Co) (bw:Nat) (sw:Sl) (w4:World) (T5 bx:Nat) (sx:Wh) (gx b2:Nat) (W:World):Prop where
 y:kfX w C s F fa fm fc T bw sw w4 T5 bx sx W
 f:blk W b2 [.bool F.e,.int .u32 (F.i:Int),.bool F.r,.int .i64 F.d,.slice (some ⟨gx,0,none⟩) fm fm] 55
 d:isBytes W (some ⟨gx,0,none⟩) fm fm F.l
 r:rowF W gx fm
 k:bx<gx∧gx<b2
theorem kfY.below {w:World} {C:Co} {s:Sl} {F:R5} {fa:Option Addr} {fm fc:Nat} {T:Co} {bw:Nat} {sw:Sl} {w4:World} {T5 bx:Nat} {sx:Wh} {gx b2:Nat} {W W':World} (h:kfY w C s F fa fm fc T bw sw w4 T5 bx sx gx b2 W) (hb:Below W.heap.size W W'):kfY w C s F fa fm fc T bw sw w4 T5 bx sx gx b2 W':=⟨h.y.below hb,h.f.below hb,h.d.below hb,h.r.up (hb.block _ (by have:=h.f.lt;have:=h.k;omega)),h.k⟩
structure kfG (w:World) (C:Co) (s:Sl) (F:R5) (fa:Option Addr) (fm fc:Nat) (T:Co) (bw:Nat) (sw:Sl) (w4:World) (b2 B6:Nat) (w7:World) (bg:Nat) (sg:Sl) (W:World):Prop where
 l:kfS w C s F fa fm fc T bw sw W
 g:blk W bg (coL T sg) 41
 k:∀ x,B6≤x→x<w7.heap.size→W.heap[x]?=w7.heap[x]?
 z:b2<B6∧B6≤w7.heap.size∧w7.heap.size≤bg
 y:bw<w4.heap.size∧w.heap.size+1<w4.heap.size∧w4.heap.size≤b2
 b4:Below w4.heap.size w4 W
theorem kfG.below {w:World} {C:Co} {s:Sl} {F:R5} {fa:Option Addr} {fm fc:Nat} {T:Co} {bw:Nat} {sw:Sl} {w4:World} {b2 B6:Nat} {w7:World} {bg:Nat} {sg:Sl} {W W':World} (h:kfG w C s F fa fm fc T bw sw w4 b2 B6 w7 bg sg W) (hb:Below W.heap.size W W'):kfG w C s F fa fm fc T bw sw w4 b2 B6 w7 bg sg W':=⟨h.l.below hb,h.g.below hb,fun x h1 h2=>(hb.block x (by have:=h.g.lt;have:=h.z;omega)).trans (h.k x h1 h2),h.z,h.y,h.b4.trans (hb.mono h.b4.size)⟩
theorem kfS.mark {w:World} {C:Co} {s:Sl} {F:R5} {fa:Option Addr} {fm fc:Nat} {T:Co} {bw:Nat} {sw:Sl} {w4 W W':World} (h:kfS w C s F fa fm fc T bw sw W) (h4:isHo w4 T.ho sw∧isHo w4 C.ho s∧isBytes w4 fa fm fc F.l) (hy:bw<w4.heap.size∧w.heap.size+1<w4.heap.size) (hb4:Below w4.heap.size w4 W) (hb:Below w4.heap.size W W'):kfS w C s F fa fm fc T bw sw W':=by
 have hb5:=hb4.trans hb
 exact⟨⟨h.a.p.kept (hb.block _ (by omega)),h.a.f.kept (hb.block _ (by omega)),h4.2.1.below hb5,h4.2.2.below hb5,h.a.b.trans (hb.mono (by omega))⟩,h.q.kept (hb.block _ (by omega)),h4.1.below hb5⟩
theorem kfG.mark {w:World} {C:Co} {s:Sl} {F:R5} {fa:Option Addr} {fm fc:Nat} {T:Co} {bw:Nat} {sw:Sl} {w4:World} {b2 B6:Nat} {w7:World} {bg:Nat} {sg:Sl} {W W':World} (h:kfG w C s F fa fm fc T bw sw w4 b2 B6 w7 bg sg W) (h4:isHo w4 T.ho sw∧isHo w4 C.ho s∧isBytes w4 fa fm fc F.l) (hb:Below w4.heap.size W W') (ho:∀ x,B6≤x→x<W.heap.size→W'.heap[x]?=W.heap[x]?):kfG w C s F fa fm fc T bw sw w4 b2 B6 w7 bg sg W':=by
 have hz:=h.z
 have hg:=h.g.lt
 exact⟨h.l.mark h4 ⟨h.y.1,h.y.2.1⟩ h.b4 hb,h.g.kept (ho _ (by omega) hg),fun x h1 h2=>(ho x h1 (by omega)).trans (h.k x h1 h2),h.z,h.y,h.b4.trans hb⟩
theorem kfG.gmark {w:World} {C:Co} {s:Sl} {F:R5} {fa:Option Addr} {fm fc:Nat} {T:Co} {bw:Nat} {sw:Sl} {w4:World} {b2 B6:Nat} {w7:World} {bg:Nat} {sg:Sl} {W W':World} (h:kfG w C s F fa fm fc T bw sw w4 b2 B6 w7 bg sg W) (h4:isHo w4 T.ho sw∧isHo w4 C.ho s∧isBytes w4 fa fm fc F.l) (hb:Below B6 W W'):kfS w C s F fa fm fc T bw sw W':=h.l.mark h4 ⟨h.y.1,h.y.2.1⟩ h.b4 (hb.mono (by have:=h.z;have:=h.y;omega))
theorem xMarkC3 {B T:Nat} {W:World} {sx:Wh} {C:Co} (h:whS B T W sx) (hd:whD sx) (hT:T≤W.heap.size) (hB:B≤T):Calls Tryz.prog 13 #[.agg (coL C sx.sl).toArray,.int .i64 1] W fun o w1=>∃ k:Nat,o = .returned (.int .i64 (k:Int))∧(∀ x,T≤x→x<W.heap.size→w1.heap[x]?=W.heap[x]?)∧Below B W w1∧k≤10000000000000:=by
 refine markCo (fun X hX=>?_)
 refine (xMark3 (H:=C.ho) (h.same fun x h1 h2=>hX.block x (by omega)) hd (by have:=hX.size;omega)).mono ?_
 rintro o w1 ⟨k,rfl,h1,h2,h3⟩;exact⟨k,rfl,fun x h4 h5=>(h1 x h4 (by have:=hX.size;omega)).trans (hX.block x h5),(hX.mono (by omega)).trans h2,h3⟩
theorem szLC2 (w:World) (C:Co) (s:Sl) (h:isHo w C.ho s) (hn:C.ho.le 9223372036854775807):Calls Tryz.prog 8 #[.agg (coL C s).toArray,.int .i64 1048576] w fun o w'=>∃ z:Int,o = .returned (.int .i64 z)∧Below w.heap.size w w'∧(z = -1∨∃ m':Nat,z=(m':Int)∧m'≤1048576∧C.ho.le 1048576):=by
 rw[← coV_L]
 have HC:Hid (∀ X,Below w.heap.size w X→Calls Tryz.prog 32 #[hoV C.ho s,.int .i64 1048576] X fun o w'=>∃ z:Int,o = .returned (.int .i64 z)∧Below w.heap.size w w'∧(z = -1∨∃ m':Nat,z=(m':Int)∧m'≤1048576∧C.ho.le 1048576)):=by
  intro X hX;refine (szHost_le X C.ho s (h.below hX) hn 1048576 (by omega)).mono ?_
  rintro o w' ⟨z,rfl,h1,h2⟩;exact⟨z,rfl,hX.trans (h1.mono hX.size),h2⟩
 clear h hn;obtain⟨p,ct,lv,wk,ov,ow,tx,ak,rn,te,re,⟨c0,c1,c2,c3,fs,bx,ff,qu,lo,st⟩⟩:=C
 obtain⟨a1,n1,k1,a2,n2,k2,a3,n3,k3,a4,n4,k4⟩:=s
 go_enter Tryz.func8,Tryz.ntmps8
 go_wp2_with (first | (go_at_call 32;refine (HC.out _ ((Below.refl _ _).alloc (Nat.le_refl _) _)).mono ?_;rintro o w2 ⟨z,rfl,B2,h2⟩;have HB2:Hid (Below w.heap.size w w2):=B2;clear B2;rcases h2 with rfl | ⟨m',rfl,hle⟩))
 ·go_ret;exact⟨_,rfl,HB2.out,.inl rfl⟩
 ·go_ret;exact⟨_,rfl,HB2.out,.inr ⟨m',rfl,hle⟩⟩
theorem put_core {W:World} {b:Nat} {L:List Value} (h:blk W b [.int .i64 0,.int .i64 0,.int .i64 0,.bool false,.bool false,.bool false,.bool false,.bool false,.int .i64 0,.int .i64 0,.int .i64 0,.int .i64 0,.int .i64 0,.int .i64 0,.int .i64 0,.slice none 0 0,.slice none 0 0,.slice none 0 0,.slice none 0 0,.int .i64 0,.int .i64 0] 41) (hl:L.length=21):blk (W.setCells b 0 L) b L 41:=by
 have:=blk.put [] [.int .i64 0,.int .i64 0,.int .i64 0,.bool false,.bool false,.bool false,.bool false,.bool false,.int .i64 0,.int .i64 0,.int .i64 0,.int .i64 0,.int .i64 0,.int .i64 0,.int .i64 0,.slice none 0 0,.slice none 0 0,.slice none 0 0,.slice none 0 0,.int .i64 0,.int .i64 0] [] L (w:=W) (b:=b) (T:=41) (by simpa using h) (by rw[hl];rfl)
 simpa using this
theorem fin_le {C:Co} {t:Int} {F:R5} (hok:okCo C) (h:C.ho.le 1048576) (hf:F.l.length≤1048576):(actC C (finC C t F)).ho.le 1048576:=by
 have hb:=hok.h.bd
 have hl:∀ b,(relHo C.ho b).le 1048576:=fun b=>relHo_le h (Nat.le_trans hb.q (by decide))
 have hd:=delHo_le h hok.h.dl.2.2.1 hok.h.dl.2.1 hf
 refine actC_le ?_ ?_
 ·unfold finC
  split
  ·exact hl true
  ·split
   ·exact hd
   ·split
    ·exact h
    ·split
     ·exact h.post hok.h.n4 (Nat.zero_le _)
     ·split
      ·exact hl false
      ·exact h
 ·unfold finC
  split
  ·exact Nat.le_trans (hb.rel true).q (by decide)
  ·split
   ·exact Nat.le_trans (hb.del F).q (by decide)
   ·split
    ·exact Nat.le_trans hb.q (by decide)
    ·split
     ·exact Nat.le_trans (hb.post _).q (by decide)
     ·split
      ·exact Nat.le_trans (hb.rel false).q (by decide)
      ·exact Nat.le_trans hb.q (by decide)
theorem RFinish_le {C T:Co} {t:Int} {F:R5} {fm:Nat} (hR:okRelP (okFi C t (validB F.e F.i F.r F.d fm)) (actC C (finC C t F)) T) (h:C.ho.le 1048576) (hfm:fm≤1048576) (hl:fm=F.l.length):T.ho.le 1048576:=by
 rcases hR with⟨hok,rfl⟩|⟨_,rfl⟩
 ·exact fin_le hok.1 h (by omega)
 ·exact zCo_le
theorem implTFinish (w:World) (C:Co) (s:Sl) (t:Int) (F:R5) (fa:Option Addr) (fm fc:Nat) (T:Co) (hR:okRelP (okFi C t (validB F.e F.i F.r F.d fm)) (actC C (finC C t F)) T) (h:isHo w C.ho s) (hs:slSome s) (hn:C.ho.le 1048576) (hf:isBytes w fa fm fc F.l) (hfm:fm≤1048576) :
  Calls Tryz.prog 20 #[.agg (coL C s).toArray,.int .i64 t,frV F.e F.i F.r F.d fa fm fc] w fun o w'=>∃ sg,o = .returned (.agg (coL T sg).toArray)∧St w.heap.size w' (fun W=>isHo W T.ho sg)∧MKC w.heap.size T sg w'∧Below w.heap.size w w':=by
 refine (implFinish_any w C s t F fa fm fc h hs hn hf hfm).mono ?_
 rintro o w' (⟨hok,s4,rfl,q1,q2,q3,q4,hb⟩|⟨hok,rfl,hb⟩)
 ·have e:=hR.yes hok
  subst e;exact⟨s4.sl,rfl,q1,MKQ.core (T:=actC C (finC C t F)) (q2.mkq (H:=(actC C (finC C t F)).ho) q3 q4) hb.size,hb⟩
 ·have e:=hR.no hok
  subst e;exact⟨zSl,rfl,fun W _=>zHo_is W,MKQ.core (T:=zCo) (zHo_mkq _ _ hb.size) hb.size,hb⟩
end Go.Proofs.YtkfcfigbgmbaiaaGreat
