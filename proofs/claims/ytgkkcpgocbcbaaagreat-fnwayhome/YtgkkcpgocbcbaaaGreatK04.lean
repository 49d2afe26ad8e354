import Derived.Test.YtgkkcpgocbcbaaaGreatK03
import Derived.Test.YtgkkcpgocbcbaaaGreatK01
import Derived.Test.YtgkkcpgocbcbaaaGreatK00
import Derived.Deep.RegionHeld3
import Derived.Test.YtgkkcpgocbcbaaaGreatK02
namespace Go.Proofs.YtgkkcpgocbcbaaaGreat
open Go.RowKit
theorem blk.set {w:World} {b:Nat} {l:List Value} {T:TypeId} (h:blk w b l T) (o:Nat) (v:Value):blk (w.setCell ⟨b,o,none⟩ v) b (l.set o v) T:=by
 have:=heap_setCell_same w b o _ _ v h
 simpa[blk] using this
theorem blk.setOther {w:World} {b b':Nat} {l:List Value} {T:TypeId} (h:blk w b l T) (hb:b≠b') (o:Nat) (v:Value):blk (w.setCell ⟨b',o,none⟩ v) b l T:=h.other hb o [v]
abbrev z10:List Value:=[.int .i64 0,.int .i64 0,.int .i64 0,.int .i64 0,.slice none 0 0,.slice none 0 0,.slice none 0 0,.slice none 0 0,.int .i64 0,.int .i64 0]
structure gS (w:World) (hv gv:List Value) (W:World):Prop where
 p:blk W w.heap.size hv 30
 r:blk W (w.heap.size+1) z10 30
 q:blk W (w.heap.size+1+1) gv 30
 b:Below w.heap.size w W
theorem gS.z {w W:World} {hv gv:List Value} (h:gS w hv gv W):w.heap.size+3≤W.heap.size:=h.q.lt
theorem gS.below {w W W':World} {hv gv:List Value} (h:gS w hv gv W) (hb:Below W.heap.size W W'):gS w hv gv W':=⟨h.p.below hb,h.r.below hb,h.q.below hb,h.b.trans (hb.mono h.b.size)⟩
theorem gS.grown {w W W':World} {hv gv:List Value} {g:Nat} (h:gS w hv gv W) (hg:W.grownBy W' (some g)) (h3:w.heap.size+3≤g):gS w hv gv W':=by
 have hz:=h.z
 exact⟨h.p.kept (hg.block _ (by omega) (by intro e;cases e;omega)),h.r.kept (hg.block _ (by omega) (by intro e;cases e;omega)),h.q.kept (hg.block _ (by omega) (by intro e;cases e;omega)),h.b.grown hg (by omega) (by intro k e;cases e;omega)⟩
theorem gS.set {w W:World} {hv gv:List Value} (h:gS w hv gv W) (o:Nat) (v:Value):gS w hv (gv.set o v) (W.setCell ⟨w.heap.size+1+1,o,none⟩ v):=
 ⟨h.p.setOther (by omega) _ _,h.r.setOther (by omega) _ _,h.q.set _ _,h.b.setCell (by show _≤_+_+_;omega) _⟩
structure hS (w:World) (hv:List Value) (W:World):Prop where
 p:blk W w.heap.size hv 30
 b:Below w.heap.size w W
theorem gS.hs {w W:World} {hv gv:List Value} (h:gS w hv gv W):hS w hv W:=⟨h.p,h.b⟩
theorem sz98:(Tryz.prog.info? 83).map (·.size)=some 3:=by kernel_rfl
def rc3:R3→List Value:=fun b=>[.bool b.e,.int .u32 b.m,.int .u32 b.k]
theorem c3_rc (bs:List R3):c3 bs=bs.flatMap rc3:=rfl
theorem c3_snoc (bs:List R3) (k:Nat) (h:k<bs.length):c3 (bs.take k)++rc3 bs[k]=c3 (bs.take (k+1)):=by
 rw[c3_rc,c3_rc,List.take_succ_eq_append_getElem h,List.flatMap_append,List.flatMap_cons,List.flatMap_nil,List.append_nil]
theorem take5 {bs:List R5} {rs:List (R5 × Nat × Nat)} {k:Nat} (h:rs.map (·.1)=bs.take k) (hk:k<bs.length) (p:R5 × Nat × Nat) (hp:p.1=bs[k]):(rs++[p]).map (·.1)=bs.take (k+1):=by
 rw[List.map_append,h,List.take_succ_eq_append_getElem hk,List.map_cons,List.map_nil,hp]
theorem take5_len {bs:List R5} {rs:List (R5 × Nat × Nat)} {k:Nat} (h:rs.map (·.1)=bs.take k) (hk:k≤bs.length):rs.length=k:=by
 have:=congrArg List.length h
 rw[List.length_map,List.length_take] at this
 omega
theorem one5L (e:Bool) (i:Int) (r:Bool) (d:Int) (a:Option Addr) (n c:Nat):∀ u ∈ [Value.bool e,.int .u32 i,.bool r,.int .i64 d,.slice a n c],u.oneCell'=true:=by
 intro u hu
 simp only[List.mem_cons,List.not_mem_nil,or_false] at hu
 rcases hu with rfl | rfl | rfl | rfl | rfl <;> rfl
structure Kp (B:Nat) (W W':World):Prop where
 same:∀ b,B≤b→b<W.heap.size→W'.heap[b]?=W.heap[b]?
 size:W.heap.size≤W'.heap.size
theorem Kp.refl (B:Nat) (W:World):Kp B W W:=⟨fun _ _ _=>rfl,Nat.le_refl _⟩
theorem Kp.below {B:Nat} {W W' W'':World} (h:Kp B W W') (hb:Below W'.heap.size W' W''):Kp B W W'':=⟨fun b h1 h2=>(hb.block b (Nat.lt_of_lt_of_le h2 h.size)).trans (h.same b h1 h2),Nat.le_trans h.size hb.size⟩
theorem Kp.grown {B:Nat} {W W' W'':World} {g:Nat} (h:Kp B W W') (hg:W'.grownBy W'' (some g)) (hw:W.heap.size≤g):Kp B W W'':=⟨fun b h1 h2=>(hg.block b (Nat.lt_of_lt_of_le h2 h.size) (by intro e;cases e;omega)).trans (h.same b h1 h2),Nat.le_trans h.size hg.size⟩
theorem Kp.set {B:Nat} {W W':World} (h:Kp B W W') (b o:Nat) (hb:b<B) (v:Value):Kp B W (W'.setCell ⟨b,o,none⟩ v):=⟨fun k h1 h2=>(heap_setCell_other _ _ _ _ (by show k≠b;omega)).trans (h.same k h1 h2),by simpa using h.size⟩
theorem St.kp {B:Nat} {W W':World} {p:World→Prop} (h:St B W p) (hk:Kp B W W'):St B W' p:=fun V hV=>h V fun k h1 h2=>(hV k h1 (Nat.lt_of_lt_of_le h2 hk.size)).trans (hk.same k h1 h2)
theorem range_below {w W:World} {g o:Nat} {l:List Value} (h:w.rangeAt g o l) (hb:Below w.heap.size w W) (hg:g<w.heap.size):W.rangeAt g o l:=fun j v hv=>(hb.cell (by exact hg)).trans (h j v hv)
theorem one3L (e:Bool) (m k:Int):∀ u ∈ [Value.bool e,.int .u32 m,.int .u32 k],u.oneCell'=true:=by
 intro u hu
 simp only[List.mem_cons,List.not_mem_nil,or_false] at hu
 rcases hu with rfl | rfl | rfl <;> rfl
set_option linter.unusedVariables false
def okFr (b:R5):Bool:=validB b.e b.i b.r b.d b.l.length
def okEv (b:R8):Bool:=decide ((1≤b.x∧b.x≤12)∧(0≤b.y∧b.y≤9999)∧(0≤b.z∧b.z≤9)) && validB b.e b.i b.r b.d b.l.length
theorem wrongFrame_any (w:World) (b:R5) (a:Option Addr) (n cap:Nat) (h:isBytes w a n cap b.l) :
  Calls Tryz.prog 70 #[frV b.e b.i b.r b.d a n cap] w fun o w'=>o = .returned (.bool (!okFr b))∧Below w.heap.size w w':=by
 have hlen:=h.len
 have HV:Hid (∀ W,Below w.heap.size w W→Calls Tryz.prog 89 #[frV b.e b.i b.r b.d a n cap] W fun o w'=>o = .returned (.bool (okFr b))∧Below W.heap.size W w'):=fun W hW=>by
  have:=valid_any W b.e b.i b.r b.d a n cap b.l (h.below hW)
  rw[hlen] at this
  unfold okFr
  rw[hlen]
  exact this
 clear h hlen
 generalize okFr b=R at *
 obtain⟨e,i,r,d,l⟩:=b
 go_enter Tryz.func70,Tryz.ntmps70
 go_wp2_with fail
 refine (HV.out _ ((Below.refl _ _).alloc (Nat.le_refl _) _)).mono ?_
 rintro o w1 ⟨rfl,hb1⟩
 have HB:Hid (Below w.heap.size w w1):=((Below.refl _ _).alloc (Nat.le_refl _) _).trans (hb1.mono (by simp))
 clear hb1
 cases R
 ·go_wp2_with fail
  go_ret
  exact⟨rfl,HB.out⟩
 ·go_wp2_with fail
  go_ret
  exact⟨rfl,HB.out⟩
set_option maxHeartbeats 2000000 in
set_option maxRecDepth 20000 in
theorem wrongEvent_any (w:World) (b:R8) (a:Option Addr) (n cap:Nat) (h:isBytes w a n cap b.l) :
  Calls Tryz.prog 72 #[bxV b.x b.y b.z b.e b.i b.r b.d a n cap] w fun o w'=>o = .returned (.bool (!okEv b))∧Below w.heap.size w w':=by
 have HV:Hid (∀ W,Below w.heap.size w W→Calls Tryz.prog 70 #[frV b.e b.i b.r b.d a n cap] W fun o w'=>o = .returned (.bool (!validB b.e b.i b.r b.d b.l.length))∧Below W.heap.size W w'):=fun W hW=>wrongFrame_any W ⟨b.e,b.i,b.r,b.d,b.l⟩ a n cap (h.below hW)
 clear h
 have HO:Hid (okEv b=(decide ((1≤b.x∧b.x≤12)∧(0≤b.y∧b.y≤9999)∧(0≤b.z∧b.z≤9)) && validB b.e b.i b.r b.d b.l.length)):=rfl
 generalize okEv b=Q at *
 generalize validB b.e b.i b.r b.d b.l.length=R at *
 obtain⟨x,y,z,e,i,r,d,l⟩:=b
 simp only[] at HV HO ⊢
 have HA:Hid (Below w.heap.size w (w.alloc (.cells #[.int .i64 x,.int .i64 y,.int .i64 z,.bool e,.int .u32 (i:Int),.bool r,.int .i64 d,.slice a n cap] 50))):=(Below.refl _ _).alloc (Nat.le_refl _) _
 have hx:decide (1≤x∧x≤12)=true∨decide (1≤x∧x≤12)=false:=by cases decide (1≤x∧x≤12) <;> simp
 have hy:decide (0≤y∧y≤9999)=true∨decide (0≤y∧y≤9999)=false:=by cases decide (0≤y∧y≤9999) <;> simp
 have hz:decide (0≤z∧z≤9)=true∨decide (0≤z∧z≤9)=false:=by cases decide (0≤z∧z≤9) <;> simp
 have HIR:Hid (∀ (W:World) (v l m:Int) (bb:Bool),decide (l≤v∧v≤m)=bb→Calls Tryz.prog 51 #[.int .i64 v,.int .i64 l,.int .i64 m] W fun o w'=>o = .returned (.bool bb)∧W=w'):=fun W v l m bb hbb=>hbb ▸ inRange_any W v l m
 rcases hx with hx|hx
 ·rcases hy with hy|hy
  ·rcases hz with hz|hz
   ·have HQ:Hid (Q=R):=by
     have:=HO.out
     simp only[decide_eq_true_eq] at hx hy hz
     rw[this,decide_eq_true ⟨hx,hy,hz⟩];rfl
    have I1:=fun W=>HIR.out W x 1 12 true hx
    have I2:=fun W=>HIR.out W y 0 9999 true hy
    have I3:=fun W=>HIR.out W z 0 9 true hz
    have J1:Hid (∀ W,Calls Tryz.prog 51 #[.int .i64 x,.int .i64 1,.int .i64 12] W fun o w'=>o = .returned (.bool true)∧W=w'):=I1
    have J2:Hid (∀ W,Calls Tryz.prog 51 #[.int .i64 y,.int .i64 0,.int .i64 9999] W fun o w'=>o = .returned (.bool true)∧W=w'):=I2
    have J3:Hid (∀ W,Calls Tryz.prog 51 #[.int .i64 z,.int .i64 0,.int .i64 9] W fun o w'=>o = .returned (.bool true)∧W=w'):=I3
    clear I1 I2 I3 hx hy hz HIR HO
    go_enter Tryz.func72,Tryz.ntmps72
    go_wp2_with (first
     | (go_at_call 51;first | (refine (J1.out _).mono ?_;rintro o w1 ⟨rfl,rfl⟩;clear J1) | (refine (J2.out _).mono ?_;rintro o w1 ⟨rfl,rfl⟩;clear J2) | (refine (J3.out _).mono ?_;rintro o w1 ⟨rfl,rfl⟩;clear J3))
     | (go_at_call 70;refine (HV.out _ HA.out).mono ?_;rintro o w1 ⟨rfl,hb1⟩))
    go_ret
    exact⟨ret_bool (by rw[HQ.out]),HA.out.trans (hb1.mono HA.out.size)⟩
   ·have HQ:Hid (Q=false):=by
     have:=HO.out
     simp only[decide_eq_false_iff_not] at hz
     rw[this,decide_eq_false (fun h=>hz h.2.2)];rfl
    have J1:Hid (∀ W,Calls Tryz.prog 51 #[.int .i64 x,.int .i64 1,.int .i64 12] W fun o w'=>o = .returned (.bool true)∧W=w'):=fun W=>HIR.out W x 1 12 true hx
    have J2:Hid (∀ W,Calls Tryz.prog 51 #[.int .i64 y,.int .i64 0,.int .i64 9999] W fun o w'=>o = .returned (.bool true)∧W=w'):=fun W=>HIR.out W y 0 9999 true hy
    have J3:Hid (∀ W,Calls Tryz.prog 51 #[.int .i64 z,.int .i64 0,.int .i64 9] W fun o w'=>o = .returned (.bool false)∧W=w'):=fun W=>HIR.out W z 0 9 false hz
    clear hx hy hz HIR HO HV
    go_enter Tryz.func72,Tryz.ntmps72
    go_wp2_with (first
     | (go_at_call 51;first | (refine (J1.out _).mono ?_;rintro o w1 ⟨rfl,rfl⟩;clear J1) | (refine (J2.out _).mono ?_;rintro o w1 ⟨rfl,rfl⟩;clear J2) | (refine (J3.out _).mono ?_;rintro o w1 ⟨rfl,rfl⟩;clear J3)))
    go_ret
    exact⟨ret_bool (by rw[HQ.out];rfl),HA.out⟩
  ·have HQ:Hid (Q=false):=by
    have:=HO.out
    simp only[decide_eq_false_iff_not] at hy
    rw[this,decide_eq_false (fun h=>hy h.2.1)];rfl
   have J1:Hid (∀ W,Calls Tryz.prog 51 #[.int .i64 x,.int .i64 1,.int .i64 12] W fun o w'=>o = .returned (.bool true)∧W=w'):=fun W=>HIR.out W x 1 12 true hx
   have J2:Hid (∀ W,Calls Tryz.prog 51 #[.int .i64 y,.int .i64 0,.int .i64 9999] W fun o w'=>o = .returned (.bool false)∧W=w'):=fun W=>HIR.out W y 0 9999 false hy
   clear hx hy hz HIR HO HV
   go_enter Tryz.func72,Tryz.ntmps72
   go_wp2_with (first
    | (go_at_call 51;first | (refine (J1.out _).mono ?_;rintro o w1 ⟨rfl,rfl⟩;clear J1) | (refine (J2.out _).mono ?_;rintro o w1 ⟨rfl,rfl⟩;clear J2)))
   go_ret
   exact⟨ret_bool (by rw[HQ.out];rfl),HA.out⟩
 ·have HQ:Hid (Q=false):=by
   have:=HO.out
   simp only[decide_eq_false_iff_not] at hx
   rw[this,decide_eq_false (fun h=>hx h.1)];rfl
  have J1:Hid (∀ W,Calls Tryz.prog 51 #[.int .i64 x,.int .i64 1,.int .i64 12] W fun o w'=>o = .returned (.bool false)∧W=w'):=fun W=>HIR.out W x 1 12 false hx
  clear hx hy hz HIR HO HV
  go_enter Tryz.func72,Tryz.ntmps72
  go_wp2_with (first
   | (go_at_call 51;refine (J1.out _).mono ?_;rintro o w1 ⟨rfl,rfl⟩))
  go_ret
  exact⟨ret_bool (by rw[HQ.out];rfl),HA.out⟩
theorem all_snocG {α:Type} {p:α→Bool} {bs:List α} {k:Nat} (hk:k<bs.length) (h:∀ j (hj:j<bs.length),j<k→p bs[j]=true) (h1:p bs[k]=true):∀ j (hj:j<bs.length),j<k+1→p bs[j]=true:=by
 intro j hj h2
 by_cases e:j=k
 ·subst e;exact h1
 ·exact h j hj (by omega)
theorem all_yesG {α:Type} {p:α→Bool} {bs:List α} {k:Nat} (hk:bs.length≤k) (h:∀ j (hj:j<bs.length),j<k→p bs[j]=true):bs.all p=true:=by
 rw[List.all_eq_true]
 intro x hx
 obtain⟨j,hj,rfl⟩:=List.getElem_of_mem hx
 exact h j hj (by omega)
theorem all_noG {α:Type} {p:α→Bool} {bs:List α} {k:Nat} (hk:k<bs.length) (h1:p bs[k]=false):bs.all p=false:=by
 rw[List.all_eq_false]
 exact⟨bs[k],List.getElem_mem hk,by rw[h1];simp⟩
set_option maxHeartbeats 4000000 in
theorem indexFrame_any (w:World) (a:Option Addr) (n cap:Nat) (bs:List R5) (h:isR5s w a n cap bs) (hn:n≤1048576) :
  Calls Tryz.prog 103 #[.slice a n cap,.func (.func 70) #[] #[]] w fun o w'=>∃ z:Int,o = .returned (.int .i64 z)∧decide (0≤z) = !bs.all okFr∧Below w.heap.size w w':=by
 have hlen:=h.len
 have hcp:=h.cap
 by_cases hl:bs=[]
 ·subst hl
  have hn0:n=0:=hlen
  subst hn0
  clear hlen h
  go_enter Tryz.func103,Tryz.ntmps103
  go_wp2
  go_loopw [8] (fun i wr=>i = .int .i64 0∧wr=w) (fun _ _=>0)
  case atStart=>exact⟨rfl,rfl⟩
  case round=>
   obtain⟨rfl,rfl⟩:=hrel
   go_wp2
   go_ret
   exact⟨-1,rfl,rfl,Below.refl _ _⟩
 ·obtain⟨g,off,rfl,hc⟩:=h.cells hl
  have HL:Hid (n=bs.length):=hlen
  have HC:Hid (∀ j (h:j<bs.length),∃ ao m c,at5 w g (off+j*5) bs[j] ao m c):=hc
  clear h hlen hc
  go_enter Tryz.func103,Tryz.ntmps103
  go_wp2
  go_loopw [8] (fun i wr=>∃ k:Nat,k≤n∧i = .int .i64 (k:Int)∧(∀ j (hj:j<bs.length),j<k→okFr bs[j]=true)∧Below w.heap.size w wr) (fun i _=>n-(intOf i).toNat)
  case atStart=>exact⟨0,Nat.zero_le _,rfl,fun j hj h=>absurd h (Nat.not_lt_zero _),Below.refl _ _⟩
  case round=>
   obtain⟨k,hk,rfl,hdone,hb⟩:=hrel
   by_cases hlt:k<n
   ·have hkl:k<bs.length:=by have:=HL.out;omega
    obtain⟨ao,m,c,hx⟩:=HC.out k hkl
    have hx':=hx.below hb
    have HRG:Hid (wr.rangeAt g (off+k*5) [.bool bs[k].e,.int .u32 (bs[k].i:Int),.bool bs[k].r,.int .i64 bs[k].d,.slice ao m c]):=hx'.range
    have HW:Hid (Calls Tryz.prog 70 #[frV bs[k].e bs[k].i bs[k].r bs[k].d ao m c] wr fun o w'=>o = .returned (.bool (!okFr bs[k]))∧Below wr.heap.size wr w'):=wrongFrame_any wr bs[k] ao m c hx'.dat
    have HB:Hid (Below w.heap.size w wr):=hb
    have HD:Hid (∀ j (hj:j<bs.length),j<k→okFr bs[j]=true):=hdone
    clear hx hx' hb hdone
    cases hok:okFr bs[k]
    ·have HN:Hid (bs.all okFr=false):=all_noG hkl hok
     rw[hok] at HW
     clear hok
     generalize bs[k].e=e0 at *
     generalize bs[k].i=i0 at *
     generalize bs[k].r=r0 at *
     generalize bs[k].d=d0 at *
     go_wp2_with (first
      | (refine wpList_load_mid (P:=Tryz.prog) rfl 37 _ rfl g (off+k*5) rfl _ _ HRG.out Tryz.underlying37 rfl sz93 ?_)
      | (go_at_call 70;refine HW.out.mono ?_;rintro o w5 ⟨rfl,hb5⟩))
     go_ret
     exact⟨_,rfl,by rw[HN.out];simp,HB.out.trans (hb5.mono HB.out.size)⟩
    ·have HN:Hid (∀ j (hj:j<bs.length),j<k+1→okFr bs[j]=true):=all_snocG hkl HD.out hok
     rw[hok] at HW
     clear hok
     generalize bs[k].e=e0 at *
     generalize bs[k].i=i0 at *
     generalize bs[k].r=r0 at *
     generalize bs[k].d=d0 at *
     go_wp2_with (first
      | (refine wpList_load_mid (P:=Tryz.prog) rfl 37 _ rfl g (off+k*5) rfl _ _ HRG.out Tryz.underlying37 rfl sz93 ?_)
      | (go_at_call 70;refine HW.out.mono ?_;rintro o w5 ⟨rfl,hb5⟩))
     go_roundw
     case rel=>exact⟨k+1,by omega,by go_num,HN.out,HB.out.trans (hb5.mono HB.out.size)⟩
     case measure=>simp[intOf];omega
   ·have HN:Hid (bs.all okFr=true):=all_yesG (by have:=HL.out;omega) hdone
    clear hdone
    go_wp2
    go_ret
    exact⟨_,rfl,by rw[HN.out];simp,hb⟩
theorem containsFrame_any (w:World) (a:Option Addr) (n cap:Nat) (bs:List R5) (h:isR5s w a n cap bs) (hn:n≤1048576) :
  Calls Tryz.prog 69 #[.slice a n cap,.func (.func 70) #[] #[]] w fun o w'=>o = .returned (.bool (!bs.all okFr))∧Below w.heap.size w w':=by
 have HI:Hid (Calls Tryz.prog 103 #[.slice a n cap,.func (.func 70) #[] #[]] w fun o w'=>∃ z:Int,o = .returned (.int .i64 z)∧decide (0≤z) = !bs.all okFr∧Below w.heap.size w w'):=indexFrame_any w a n cap bs h hn
 clear h
 go_enter Tryz.func69,Tryz.ntmps69
 go_wp2_with (first | (go_at_call 103;refine HI.out.mono ?_;rintro o w5 ⟨z,rfl,hz,hb5⟩;have HZ:Hid (decide (0≤z) = !bs.all okFr):=hz;clear hz))
 go_ret
 exact⟨ret_bool HZ.out,hb5⟩
set_option maxHeartbeats 4000000 in
theorem indexEvent_any (w:World) (a:Option Addr) (n cap:Nat) (bs:List R8) (h:isR8s w a n cap bs) (hn:n≤1048576) :
  Calls Tryz.prog 104 #[.slice a n cap,.func (.func 72) #[] #[]] w fun o w'=>∃ z:Int,o = .returned (.int .i64 z)∧decide (0≤z) = !bs.all okEv∧Below w.heap.size w w':=by
 have hlen:=h.len
 have hcp:=h.cap
 by_cases hl:bs=[]
 ·subst hl
  have hn0:n=0:=hlen
  subst hn0
  clear hlen h
  go_enter Tryz.func104,Tryz.ntmps104
  go_wp2
  go_loopw [8] (fun i wr=>i = .int .i64 0∧wr=w) (fun _ _=>0)
  case atStart=>exact⟨rfl,rfl⟩
  case round=>
   obtain⟨rfl,rfl⟩:=hrel
   go_wp2
   go_ret
   exact⟨-1,rfl,rfl,Below.refl _ _⟩
 ·obtain⟨g,off,rfl,hc⟩:=h.cells hl
  have HL:Hid (n=bs.length):=hlen
  have HC:Hid (∀ j (h:j<bs.length),∃ ao m c,at8 w g (off+j*8) bs[j] ao m c):=hc
  clear h hlen hc
  go_enter Tryz.func104,Tryz.ntmps104
  go_wp2
  go_loopw [8] (fun i wr=>∃ k:Nat,k≤n∧i = .int .i64 (k:Int)∧(∀ j (hj:j<bs.length),j<k→okEv bs[j]=true)∧Below w.heap.size w wr) (fun i _=>n-(intOf i).toNat)
  case atStart=>exact⟨0,Nat.zero_le _,rfl,fun j hj h=>absurd h (Nat.not_lt_zero _),Below.refl _ _⟩
  case round=>
   obtain⟨k,hk,rfl,hdone,hb⟩:=hrel
   by_cases hlt:k<n
   ·have hkl:k<bs.length:=by have:=HL.out;omega
    obtain⟨ao,m,c,hx⟩:=HC.out k hkl
    have hx':=hx.below hb
    have HRG:Hid (wr.rangeAt g (off+k*8) [.int .i64 bs[k].x,.int .i64 bs[k].y,.int .i64 bs[k].z,.bool bs[k].e,.int .u32 (bs[k].i:Int),.bool bs[k].r,.int .i64 bs[k].d,.slice ao m c]):=hx'.range
    have HW:Hid (Calls Tryz.prog 72 #[bxV bs[k].x bs[k].y bs[k].z bs[k].e bs[k].i bs[k].r bs[k].d ao m c] wr fun o w'=>o = .returned (.bool (!okEv bs[k]))∧Below wr.heap.size wr w'):=wrongEvent_any wr bs[k] ao m c hx'.dat
    have HB:Hid (Below w.heap.size w wr):=hb
    have HD:Hid (∀ j (hj:j<bs.length),j<k→okEv bs[j]=true):=hdone
    clear hx hx' hb hdone
    cases hok:okEv bs[k]
    ·have HN:Hid (bs.all okEv=false):=all_noG hkl hok
     rw[hok] at HW
     clear hok
     generalize bs[k].x=x0 at *
     generalize bs[k].y=y0 at *
     generalize bs[k].z=z0 at *
     generalize bs[k].e=e0 at *
     generalize bs[k].i=i0 at *
     generalize bs[k].r=r0 at *
     generalize bs[k].d=d0 at *
     go_wp2_with (first
      | (refine wpList_load_mid (P:=Tryz.prog) rfl 50 _ rfl g (off+k*8) rfl _ _ HRG.out Tryz.underlying50 rfl sz129 ?_)
      | (go_at_call 72;refine HW.out.mono ?_;rintro o w5 ⟨rfl,hb5⟩))
     go_ret
     exact⟨_,rfl,by rw[HN.out];simp,HB.out.trans (hb5.mono HB.out.size)⟩
    ·have HN:Hid (∀ j (hj:j<bs.length),j<k+1→okEv bs[j]=true):=all_snocG hkl HD.out hok
     rw[hok] at HW
     clear hok
     generalize bs[k].x=x0 at *
     generalize bs[k].y=y0 at *
     generalize bs[k].z=z0 at *
     generalize bs[k].e=e0 at *
     generalize bs[k].i=i0 at *
     generalize bs[k].r=r0 at *
     generalize bs[k].d=d0 at *
     go_wp2_with (first
      | (refine wpList_load_mid (P:=Tryz.prog) rfl 50 _ rfl g (off+k*8) rfl _ _ HRG.out Tryz.underlying50 rfl sz129 ?_)
      | (go_at_call 72;refine HW.out.mono ?_;rintro o w5 ⟨rfl,hb5⟩))
     go_roundw
     case rel=>exact⟨k+1,by omega,by go_num,HN.out,HB.out.trans (hb5.mono HB.out.size)⟩
     case measure=>simp[intOf];omega
   ·have HN:Hid (bs.all okEv=true):=all_yesG (by have:=HL.out;omega) hdone
    clear hdone
    go_wp2
    go_ret
    exact⟨_,rfl,by rw[HN.out];simp,hb⟩
theorem containsEvent_any (w:World) (a:Option Addr) (n cap:Nat) (bs:List R8) (h:isR8s w a n cap bs) (hn:n≤1048576) :
  Calls Tryz.prog 71 #[.slice a n cap,.func (.func 72) #[] #[]] w fun o w'=>o = .returned (.bool (!bs.all okEv))∧Below w.heap.size w w':=by
 have HI:Hid (Calls Tryz.prog 104 #[.slice a n cap,.func (.func 72) #[] #[]] w fun o w'=>∃ z:Int,o = .returned (.int .i64 z)∧decide (0≤z) = !bs.all okEv∧Below w.heap.size w w'):=indexEvent_any w a n cap bs h hn
 clear h
 go_enter Tryz.func71,Tryz.ntmps71
 go_wp2_with (first | (go_at_call 104;refine HI.out.mono ?_;rintro o w5 ⟨z,rfl,hz,hb5⟩;have HZ:Hid (decide (0≤z) = !bs.all okEv):=hz;clear hz))
 go_ret
 exact⟨ret_bool HZ.out,hb5⟩
def retB (o:Ending) (P:Prop):Prop:=∃ b:Bool,o = .returned (.bool b)∧(b=true↔P)
def hoL (H:Ho) (s:Sl):List Value:=[.int .i64 H.c0,.int .i64 H.c1,.int .i64 H.c2,.int .i64 H.c3,.slice s.a1 s.n1 s.k1,.slice s.a2 s.n2 s.k2,.slice s.a3 s.n3 s.k3,.slice s.a4 s.n4 s.k4,.int .i64 H.lo,.int .i64 H.st]
theorem hoV_L (H:Ho) (s:Sl):hoV H s = .agg (hoL H s).toArray:=rfl
theorem hoL_len (H:Ho) (s:Sl):(hoL H s).length=10:=rfl
theorem sz41L (H:Ho) (s:Sl):(Tryz.prog.info? 30).map (·.size)=some (hoL H s).length:=sz41
theorem sz41A (H:Ho) (s:Sl):(Tryz.prog.info? 30).map (·.size)=some (hoL H s).toArray.size:=sz41
theorem hoL_one (H:Ho) (s:Sl):(hoL H s).toArray.all (·.oneCell')=true:=all_oneCell_toArray (by simp[hoL,Value.oneCell'])
def zFr (e:Bool) (i:Nat) (r:Bool) (d:Int) (n:Nat):Prop:=e=false∧i=0∧r=false∧d=0∧n=0
set_option maxHeartbeats 2000000 in
theorem l3zeroFrame_any (w:World) (e:Bool) (i:Nat) (r:Bool) (d:Int) (a:Option Addr) (n cap:Nat) :
  Calls Tryz.prog 32 #[frV e i r d a n cap] w fun o w'=>retB o (zFr e i r d n)∧Below w.heap.size w w':=by
 have HB:Hid (Below w.heap.size w (w.alloc (.cells #[.bool e,.int .u32 (i:Int),.bool r,.int .i64 d,.slice a n cap] 37))):=(Below.refl _ _).alloc (Nat.le_refl _) _
 cases e
 ·by_cases hi:i=0
  ·subst hi
   cases r
   ·by_cases hd:d=0
    ·subst hd
     go_enter Tryz.func32,Tryz.ntmps32
     go_wp2
     go_ret
     refine⟨⟨_,rfl,?_⟩,HB.out⟩
     unfold zFr
     simp
     try omega
    ·have hd':(d == 0)=false:=by simpa using hd
     clear hd
     go_enter Tryz.func32,Tryz.ntmps32
     go_wp2
     go_ret
     refine⟨⟨_,rfl,?_⟩,HB.out⟩
     unfold zFr
     simp at hd'
     simp[hd']
   ·go_enter Tryz.func32,Tryz.ntmps32
    go_wp2
    go_ret
    refine⟨⟨_,rfl,?_⟩,HB.out⟩
    unfold zFr
    simp
  ·have hi':((i:Int) == 0)=false:=by simpa using hi
   clear hi
   go_enter Tryz.func32,Tryz.ntmps32
   go_wp2
   go_ret
   refine⟨⟨_,rfl,?_⟩,HB.out⟩
   unfold zFr
   simp at hi'
   simp[hi']
 ·go_enter Tryz.func32,Tryz.ntmps32
  go_wp2
  go_ret
  refine⟨⟨_,rfl,?_⟩,HB.out⟩
  unfold zFr
  simp
structure Co where
 p:Int
 ct:Int
 lv:Int
 wk:Bool
 ov:Bool
 ow:Bool
 tx:Bool
 ak:Bool
 rn:Int
 te:Int
 re:Int
 ho:Ho
def coL (C:Co) (s:Sl):List Value:=[.int .i64 C.p,.int .i64 C.ct,.int .i64 C.lv,.bool C.wk,.bool C.ov,.bool C.ow,.bool C.tx,.bool C.ak,.int .i64 C.rn,.int .i64 C.te,.int .i64 C.re,.int .i64 C.ho.c0,.int .i64 C.ho.c1,.int .i64 C.ho.c2,.int .i64 C.ho.c3,.slice s.a1 s.n1 s.k1,.slice s.a2 s.n2 s.k2,.slice s.a3 s.n3 s.k3,.slice s.a4 s.n4 s.k4,.int .i64 C.ho.lo,.int .i64 C.ho.st]
def coM (C:Co):List Value:=[.int .i64 C.p,.int .i64 C.ct,.int .i64 C.lv,.bool C.wk,.bool C.ov,.bool C.ow,.bool C.tx,.bool C.ak,.int .i64 C.rn,.int .i64 C.te,.int .i64 C.re]
theorem coL_len (C:Co) (s:Sl):(coL C s).length=21:=rfl
theorem coL_M (C:Co) (s:Sl):coL C s=coM C++hoL C.ho s:=rfl
theorem coL_one (C:Co) (s:Sl):(coL C s).toArray.all (·.oneCell')=true:=all_oneCell_toArray (by simp[coL,Value.oneCell'])
theorem szC41:(Tryz.prog.info? 39).map (·.size)=some 21:=by kernel_rfl
theorem szC41L (C:Co) (s:Sl):(Tryz.prog.info? 39).map (·.size)=some (coL C s).length:=szC41
theorem szC41A (C:Co) (s:Sl):(Tryz.prog.info? 39).map (·.size)=some (coL C s).toArray.size:=szC41
def Z21:List Value:=[.int .i64 0,.int .i64 0,.int .i64 0,.bool false,.bool false,.bool false,.bool false,.bool false,.int .i64 0,.int .i64 0,.int .i64 0,.int .i64 0,.int .i64 0,.int .i64 0,.int .i64 0,.slice none 0 0,.slice none 0 0,.slice none 0 0,.slice none 0 0,.int .i64 0,.int .i64 0]
theorem blk.hostAt {w:World} {b:Nat} {C:Co} {s:Sl} {T:TypeId} (h:blk w b (coL C s) T):w.rangeAt b 11 (hoL C.ho s):=by
 have h':blk w b (coM C++hoL C.ho s++[]) T:=by rw[List.append_nil,← coL_M];exact h
 exact h'.loadAt (coM C) (hoL C.ho s) []
theorem sz39h (H:Ho) (s:Sl):(Tryz.prog.info? 30).map (·.size)=some (hoL H s).length:=by kernel_rfl
structure ctS (w:World) (b:Nat) (C:Co) (s:Sl) (W:World):Prop where
 p:blk W b (coL C s) 39
 b:Below w.heap.size w W
theorem ctS.below {w:World} {b:Nat} {C:Co} {s:Sl} {W W':World} (h:ctS w b C s W) (hb:Below W.heap.size W W'):ctS w b C s W':=⟨h.p.below hb,h.b.trans (hb.mono h.b.size)⟩
theorem ctS.new (w:World) (C:Co) (s:Sl):ctS w w.heap.size C s (w.alloc (.cells (coL C s).toArray 39)):=⟨blk.new w _ 39,(Below.refl _ _).alloc (Nat.le_refl _) _⟩
def prL:List Value:=[.int .i64 0,.int .i64 0,.func (.func 80) #[] #[],.int .i64 0,.int .i64 0,.func (.func 81) #[] #[],.int .i64 0,.int .i64 5,.func (.func 82) #[] #[],.int .i64 0,.int .i64 15,.func (.func 83) #[] #[],.int .i64 1,.int .i64 7,.func (.func 84) #[] #[],.int .i64 0,.int .i64 2,.func (.func 85) #[] #[],.int .i64 0,.int .i64 7,.func (.func 86) #[] #[],.int .i64 0,.int .i64 10,.func (.func 87) #[] #[]]
theorem prL_len:prL.length=24:=rfl
theorem prL_one:prL.toArray.all (·.oneCell')=true:=all_oneCell_toArray (by simp[prL,Value.oneCell'])
theorem sz123:(Tryz.prog.info? 104).map (·.size)=some 24:=by kernel_rfl
theorem sz123A:(Tryz.prog.info? 104).map (·.size)=some prL.toArray.size:=sz123
theorem sz123L:(Tryz.prog.info? 104).map (·.size)=some prL.length:=sz123
def prZ:List Value:=[.int .i64 0,.int .i64 0,.nilFunc,.int .i64 0,.int .i64 0,.nilFunc,.int .i64 0,.int .i64 0,.nilFunc,.int .i64 0,.int .i64 0,.nilFunc,.int .i64 0,.int .i64 0,.nilFunc,.int .i64 0,.int .i64 0,.nilFunc,.int .i64 0,.int .i64 0,.nilFunc,.int .i64 0,.int .i64 0,.nilFunc]
set_option maxHeartbeats 4000000 in
set_option maxRecDepth 20000 in
theorem phaseRows_any (w:World):Calls Tryz.prog 55 #[] w fun o w'=>o = .returned (.agg prL.toArray)∧Below w.heap.size w w':=by
 have HN:Hid (blk (w.alloc (.cells prZ.toArray 104)) w.heap.size prZ 104):=blk.new w _ 104
 go_enter Tryz.func55,Tryz.ntmps55
 go_wp2_with (first
  | (refine wpList_store_mid (P:=Tryz.prog) rfl 104 _ _ rfl w.heap.size 0 prL.toArray rfl rfl (HN.out.there 0 _ (by rw[List.size_toArray,prL_len];decide)) sz123A prL_one ?_;generalize hW8:World.setCells _ w.heap.size 0 _=w8;have HW8:Hid (_=w8):=hW8;clear hW8))
 have e8:=HW8.out
 have hF:blk w8 w.heap.size prL 104:=by
  rw[← e8]
  have:=blk.put [] prZ [] prL (w:=w.alloc (.cells prZ.toArray 104)) (b:=w.heap.size) (T:=104) (by simpa using HN.out) rfl
  have t2:blk ((w.alloc (.cells prZ.toArray 104)).setCells w.heap.size 0 prL) w.heap.size prL 104:=by simpa using this
  exact t2
 have hL:=run_loadVar_mid (P:=Tryz.prog) w8 w.heap.size 0 104 _ _ hF.load Tryz.underlying104 rfl sz123L
 refine bodyPost_ret (v:=.agg prL.toArray) (results_cell Tryz.results55 _ w8 w.heap.size _ rfl hL) rfl ?_
 refine⟨rfl,?_⟩
 rw[← e8]
 exact setCells_below (Nat.le_refl _) 0 _ ((Below.refl _ _).alloc (Nat.le_refl _) _)
def sgL:List Value:=[.int .i64 0,.int .i64 0,.bool false,.bool false,.int .i64 0,.bool false,.int .u32 0,.bool false,.int .i64 0,.slice none 0 0]
def mcH (P:Nat) (C:Co):List Value:=[.pointer (some ⟨P,0,none⟩),.int .i64 C.te,.int .i64 C.re,.int .i64 C.p,.int .i64 C.ct,.int .i64 C.lv,.bool C.wk,.bool C.ov,.bool C.ow,.bool C.tx,.bool C.ak,.int .i64 C.rn]
def mcL (P:Nat) (C:Co):List Value:=mcH P C++(sgL++prL)
theorem mcL_len (P:Nat) (C:Co):(mcL P C).length=46:=rfl
set_option maxHeartbeats 8000000 in
set_option maxRecDepth 20000 in
theorem openCore_gen {R:Nat→World→Prop} (hR:∀ P W W',R P W→Below W.heap.size W W'→R P W') (w:World) (C:Co) (s:Sl) (ho:∀ W,Below w.heap.size w W→Calls Tryz.prog 45 #[.agg (hoL C.ho s).toArray] W fun o w'=>∃ P,o = .returned (.pointer (some ⟨P,0,none⟩))∧R P w'∧Below W.heap.size W w') :
  Calls Tryz.prog 37 #[.agg (coL C s).toArray] w fun o w'=>∃ P w5,o = .returned (.pointer (some ⟨w5.heap.size,0,none⟩))∧w'=w5.alloc (.cells (mcL P C).toArray 106)∧R P w5∧Below w.heap.size w w5:=by
 have HO:Hid (∀ W,Below w.heap.size w W→Calls Tryz.prog 45 #[.agg (hoL C.ho s).toArray] W fun o w'=>∃ P,o = .returned (.pointer (some ⟨P,0,none⟩))∧R P w'∧Below W.heap.size W w'):=ho
 have HR:Hid (∀ P W W',R P W→Below W.heap.size W W'→R P W'):=hR
 have HP:Hid (∀ W,Calls Tryz.prog 55 #[] W fun o w'=>o = .returned (.agg prL.toArray)∧Below W.heap.size W w'):=fun W=>phaseRows_any W
 have H0:Hid (ctS w w.heap.size C s (w.alloc (.cells (coL C s).toArray 39))):=ctS.new w C s
 clear ho hR
 go_enter Tryz.func37,Tryz.ntmps37
 go_wp2_with fail
 refine wp_region_held (S:=fun X=>ctS w w.heap.size C s X) (by kernel_rfl) ?_
 have hS:ctS w w.heap.size C s (World.drew (w.alloc (.cells (coL C s).toArray 39))):=H0.out.below (Below.refl _ _).drew
 clear H0
 change wpAnyH Tryz.prog _ _ _ _ _ _ _ (World.drew (w.alloc (.cells (coL C s).toArray 39)))
 generalize World.drew (w.alloc (.cells (coL C s).toArray 39))=v0 at *
 refine wT (i:=0) (v:=.pointer (some ⟨w.heap.size,11,none⟩)) rfl (by kernel_rfl) (by kernel_rfl) (by kernel_rfl) (fun _ _ _ h=>h) (Or.inl ⟨by rfl,?_⟩) hS ?_
 ·intro W hSw
  clear hS
  go_simp
 simp only[Act.put,aA,aB,aC,aD,aE]
 refine wT (i:=1) (v:=.agg (hoL C.ho s).toArray) rfl (by kernel_rfl) (by kernel_rfl) (by kernel_rfl) (fun _ _ _ h=>h) (yieldsIf_load_mid (by rfl) 30 (.tmp 3) rfl w.heap.size 11 rfl (hoL C.ho s) _ (fun X h=>h.p.hostAt) Tryz.underlying30 rfl (sz39h C.ho s)) hS ?_
 simp only[Act.put,aA,aB,aC,aD,aE,aF]
 refine wT (i:=3) (v:=.pointer (some ⟨w.heap.size,9,none⟩)) rfl (by kernel_rfl) (by kernel_rfl) (by kernel_rfl) (fun _ _ _ h=>h) (Or.inl ⟨by rfl,?_⟩) hS ?_
 ·intro W hSw
  clear hS
  go_simp
 simp only[Act.put,aA,aB,aC,aD,aE,aF]
 refine wT (i:=4) (v:=.int .i64 C.te) rfl (by kernel_rfl) (by kernel_rfl) (by kernel_rfl) (fun _ _ _ h=>h) (Or.inl ⟨by rfl,?_⟩) hS ?_
 ·intro W hSw
  clear hS
  have y:=hSw.p.cell 9 (.int .i64 C.te) rfl
  go_simp
 simp only[Act.put,aA,aB,aC,aD,aE,aF]
 refine wT (i:=5) (v:=.pointer (some ⟨w.heap.size,10,none⟩)) rfl (by kernel_rfl) (by kernel_rfl) (by kernel_rfl) (fun _ _ _ h=>h) (Or.inl ⟨by rfl,?_⟩) hS ?_
 ·intro W hSw
  clear hS
  go_simp
 simp only[Act.put,aA,aB,aC,aD,aE,aF]
 refine wT (i:=6) (v:=.int .i64 C.re) rfl (by kernel_rfl) (by kernel_rfl) (by kernel_rfl) (fun _ _ _ h=>h) (Or.inl ⟨by rfl,?_⟩) hS ?_
 ·intro W hSw
  clear hS
  have y:=hSw.p.cell 10 (.int .i64 C.re) rfl
  go_simp
 simp only[Act.put,aA,aB,aC,aD,aE,aF]
 refine wT (i:=8) (v:=.pointer (some ⟨w.heap.size,0,none⟩)) rfl (by kernel_rfl) (by kernel_rfl) (by kernel_rfl) (fun _ _ _ h=>h) (Or.inl ⟨by rfl,?_⟩) hS ?_
 ·intro W hSw
  clear hS
  go_simp
 simp only[Act.put,aA,aB,aC,aD,aE,aF]
 refine wT (i:=9) (v:=.int .i64 C.p) rfl (by kernel_rfl) (by kernel_rfl) (by kernel_rfl) (fun _ _ _ h=>h) (Or.inl ⟨by rfl,?_⟩) hS ?_
 ·intro W hSw
  clear hS
  have y:=hSw.p.cell 0 (.int .i64 C.p) rfl
  go_simp
 simp only[Act.put,aA,aB,aC,aD,aE,aF]
 refine wT (i:=10) (v:=.pointer (some ⟨w.heap.size,1,none⟩)) rfl (by kernel_rfl) (by kernel_rfl) (by kernel_rfl) (fun _ _ _ h=>h) (Or.inl ⟨by rfl,?_⟩) hS ?_
 ·intro W hSw
  clear hS
  go_simp
 simp only[Act.put,aA,aB,aC,aD,aE,aF]
 refine wT (i:=11) (v:=.int .i64 C.ct) rfl (by kernel_rfl) (by kernel_rfl) (by kernel_rfl) (fun _ _ _ h=>h) (Or.inl ⟨by rfl,?_⟩) hS ?_
 ·intro W hSw
  clear hS
  have y:=hSw.p.cell 1 (.int .i64 C.ct) rfl
  go_simp
 simp only[Act.put,aA,aB,aC,aD,aE,aF]
 refine wT (i:=12) (v:=.pointer (some ⟨w.heap.size,2,none⟩)) rfl (by kernel_rfl) (by kernel_rfl) (by kernel_rfl) (fun _ _ _ h=>h) (Or.inl ⟨by rfl,?_⟩) hS ?_
 ·intro W hSw
  clear hS
  go_simp
 simp only[Act.put,aA,aB,aC,aD,aE,aF]
 refine wT (i:=13) (v:=.int .i64 C.lv) rfl (by kernel_rfl) (by kernel_rfl) (by kernel_rfl) (fun _ _ _ h=>h) (Or.inl ⟨by rfl,?_⟩) hS ?_
 ·intro W hSw
  clear hS
  have y:=hSw.p.cell 2 (.int .i64 C.lv) rfl
  go_simp
 simp only[Act.put,aA,aB,aC,aD,aE,aF]
 refine wT (i:=14) (v:=.pointer (some ⟨w.heap.size,3,none⟩)) rfl (by kernel_rfl) (by kernel_rfl) (by kernel_rfl) (fun _ _ _ h=>h) (Or.inl ⟨by rfl,?_⟩) hS ?_
 ·intro W hSw
  clear hS
  go_simp
 simp only[Act.put,aA,aB,aC,aD,aE,aF]
 refine wT (i:=15) (v:=.bool C.wk) rfl (by kernel_rfl) (by kernel_rfl) (by kernel_rfl) (fun _ _ _ h=>h) (Or.inl ⟨by rfl,?_⟩) hS ?_
 ·intro W hSw
  clear hS
  have y:=hSw.p.cell 3 (.bool C.wk) rfl
  go_simp
 simp only[Act.put,aA,aB,aC,aD,aE,aF]
 refine wT (i:=16) (v:=.pointer (some ⟨w.heap.size,4,none⟩)) rfl (by kernel_rfl) (by kernel_rfl) (by kernel_rfl) (fun _ _ _ h=>h) (Or.inl ⟨by rfl,?_⟩) hS ?_
 ·intro W hSw
  clear hS
  go_simp
 simp only[Act.put,aA,aB,aC,aD,aE,aF]
 refine wT (i:=17) (v:=.bool C.ov) rfl (by kernel_rfl) (by kernel_rfl) (by kernel_rfl) (fun _ _ _ h=>h) (Or.inl ⟨by rfl,?_⟩) hS ?_
 ·intro W hSw
  clear hS
  have y:=hSw.p.cell 4 (.bool C.ov) rfl
  go_simp
 simp only[Act.put,aA,aB,aC,aD,aE,aF]
 refine wT (i:=18) (v:=.pointer (some ⟨w.heap.size,5,none⟩)) rfl (by kernel_rfl) (by kernel_rfl) (by kernel_rfl) (fun _ _ _ h=>h) (Or.inl ⟨by rfl,?_⟩) hS ?_
 ·intro W hSw
  clear hS
  go_simp
 simp only[Act.put,aA,aB,aC,aD,aE,aF]
 refine wT (i:=19) (v:=.bool C.ow) rfl (by kernel_rfl) (by kernel_rfl) (by kernel_rfl) (fun _ _ _ h=>h) (Or.inl ⟨by rfl,?_⟩) hS ?_
 ·intro W hSw
  clear hS
  have y:=hSw.p.cell 5 (.bool C.ow) rfl
  go_simp
 simp only[Act.put,aA,aB,aC,aD,aE,aF]
 refine wT (i:=20) (v:=.pointer (some ⟨w.heap.size,6,none⟩)) rfl (by kernel_rfl) (by kernel_rfl) (by kernel_rfl) (fun _ _ _ h=>h) (Or.inl ⟨by rfl,?_⟩) hS ?_
 ·intro W hSw
  clear hS
  go_simp
 simp only[Act.put,aA,aB,aC,aD,aE,aF]
 refine wT (i:=21) (v:=.bool C.tx) rfl (by kernel_rfl) (by kernel_rfl) (by kernel_rfl) (fun _ _ _ h=>h) (Or.inl ⟨by rfl,?_⟩) hS ?_
 ·intro W hSw
  clear hS
  have y:=hSw.p.cell 6 (.bool C.tx) rfl
  go_simp
 simp only[Act.put,aA,aB,aC,aD,aE,aF]
 refine wT (i:=22) (v:=.pointer (some ⟨w.heap.size,7,none⟩)) rfl (by kernel_rfl) (by kernel_rfl) (by kernel_rfl) (fun _ _ _ h=>h) (Or.inl ⟨by rfl,?_⟩) hS ?_
 ·intro W hSw
  clear hS
  go_simp
 simp only[Act.put,aA,aB,aC,aD,aE,aF]
 refine wT (i:=23) (v:=.bool C.ak) rfl (by kernel_rfl) (by kernel_rfl) (by kernel_rfl) (fun _ _ _ h=>h) (Or.inl ⟨by rfl,?_⟩) hS ?_
 ·intro W hSw
  clear hS
  have y:=hSw.p.cell 7 (.bool C.ak) rfl
  go_simp
 simp only[Act.put,aA,aB,aC,aD,aE,aF]
 refine wT (i:=24) (v:=.pointer (some ⟨w.heap.size,8,none⟩)) rfl (by kernel_rfl) (by kernel_rfl) (by kernel_rfl) (fun _ _ _ h=>h) (Or.inl ⟨by rfl,?_⟩) hS ?_
 ·intro W hSw
  clear hS
  go_simp
 simp only[Act.put,aA,aB,aC,aD,aE,aF]
 refine wT (i:=25) (v:=.int .i64 C.rn) rfl (by kernel_rfl) (by kernel_rfl) (by kernel_rfl) (fun _ _ _ h=>h) (Or.inl ⟨by rfl,?_⟩) hS ?_
 ·intro W hSw
  clear hS
  have y:=hSw.p.cell 8 (.int .i64 C.rn) rfl
  go_simp
 simp only[Act.put,aA,aB,aC,aD,aE,aF]
 refine wT (i:=26) (v:=.agg #[.int .i64 C.p,.int .i64 C.ct,.int .i64 C.lv,.bool C.wk,.bool C.ov,.bool C.ow,.bool C.tx,.bool C.ak,.int .i64 C.rn]) rfl (by kernel_rfl) (by kernel_rfl) (by kernel_rfl) (fun _ _ _ h=>h) (Or.inl ⟨by rfl,?_⟩) hS ?_
 ·intro W hSw
  clear hS
  go_simp
 simp only[Act.put,aA,aB,aC,aD,aE,aF]
 refine wpAnyH_all (rs:=[2]) (by kernel_rfl) (by simp) ?_
 refine AllReadyH.cons rfl (fun K2 hK2=>?_) AllReadyH.nil
 go_simp
 refine (HO.out _ hS.b).mono ?_
 rintro o w2 ⟨P,rfl,hr,hb⟩
 have hS2:=hS.below hb
 have HR2:Hid (R P w2):=hr
 clear hr hb
 go_wp2_with fail
 refine hK2.out _ _ hS2 (fun hS3=>?_)
 clear hK2 K2 hS2 hS
 have hS:=hS3
 clear hS3
 refine wT (i:=7) (v:=.agg #[.pointer (some ⟨P,0,none⟩),.int .i64 C.te,.int .i64 C.re]) rfl (by kernel_rfl) (by kernel_rfl) (by kernel_rfl) (fun _ _ _ h=>h) (Or.inl ⟨by rfl,?_⟩) hS ?_
 ·intro W hSw
  clear hS
  go_simp
 simp only[Act.put,aA,aB,aC,aD,aE,aF]
 refine wpAnyH_all (rs:=[27]) (by kernel_rfl) (by simp) ?_
 refine AllReadyH.cons rfl (fun K2 hK2=>?_) AllReadyH.nil
 go_simp
 refine (HP.out _).mono ?_
 rintro o w3 ⟨rfl,hb⟩
 have hS2:=hS.below hb
 have HR3:Hid (R P w3):=HR.out _ _ _ HR2.out hb
 clear hb HR2
 go_wp2_with fail
 refine hK2.out _ _ hS2 (fun hS3=>?_)
 clear hK2 K2 hS2 hS
 have hS:=hS3
 clear hS3
 refine wT (i:=28) (v:=.agg (mcL P C).toArray) rfl (by kernel_rfl) (by kernel_rfl) (by kernel_rfl) (fun _ _ _ h=>h) (Or.inl ⟨by rfl,?_⟩) hS ?_
 ·intro W hSw
  clear hS
  simp only[prL,mcL,mcH,sgL,List.cons_append,List.nil_append]
  go_simp
 simp only[Act.put,aA,aB,aC,aD,aE,aF]
 refine wpAnyH_all (rs:=[29]) (by kernel_rfl) (by simp) ?_
 refine AllReadyH.cons rfl (fun K2 hK2=>?_) AllReadyH.nil
 go_simp
 have hS2:ctS w w.heap.size C s (w3.alloc (.cells (mcL P C).toArray 106)):=hS.below ((Below.refl _ _).alloc (Nat.le_refl _) _)
 have HB3:Hid (Below w.heap.size w w3):=hS.b
 refine hK2.out _ _ hS2 (fun hS3=>?_)
 clear hK2 K2 hS2 hS
 have hS:=hS3
 clear hS3
 refine wT (i:=30) (v:=.pointer (some ⟨w3.heap.size,0,none⟩)) rfl (by kernel_rfl) (by kernel_rfl) (by kernel_rfl) (fun _ _ _ h=>h) (Or.inl ⟨by rfl,?_⟩) hS ?_
 ·intro W hSw
  clear hS
  go_simp
 simp only[Act.put,aA,aB,aC,aD,aE,aF]
 refine wpAnyH_done (by kernel_rfl) ?_ _
 go_wp2_with fail
 go_ret
 exact⟨P,w3,rfl,rfl,HR3.out,HB3.out⟩
structure okM (C:Co):Prop where
 p:0≤C.p∧C.p≤7
 te:0≤C.te∧C.te≤256
 re:0≤C.re∧C.re≤255
 of:C.p=7↔C.te=256
 ct:rLo C.p≤C.ct∧C.ct≤rHi C.p
 lv:0≤C.lv∧C.lv≤1
 l1:C.lv=1→C.p=2∧C.wk=true∧0<C.ct
 wk:C.wk=true→C.p=2∧C.ov=false
 ov:C.ov=true→C.p=2∨C.p=3∨C.p=4
 ow:C.ow=true→C.wk=true∧C.tx=true
 tx:C.tx=true→C.p≠7∧C.p≠0
 t6:C.p=6→C.tx=true
 ak:C.ak=true→C.p=7
 rn:0≤C.rn∧C.rn<128
 na:C.ak=false→C.rn=0∧(C.p=7→C.ct=0)
end Go.Proofs.YtgkkcpgocbcbaaaGreat
