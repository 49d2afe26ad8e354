import Derived.Test.YtbllefckefhpoaaGreatK06
import Derived.Test.YtbllefckefhpoaaGreatK02
import Derived.Test.YtbllefckefhpoaaGreatK05
namespace Go.Proofs.YtbllefckefhpoaaGreat
open Go.RowKit
open Go.Value renaming int→I,slice→sL,bool→bO,pointer→pT,agg→aG
open Go.IntKind renaming i64→J
open Go.Ending renaming returned→rT
open Go.Proofs.Tryz renaming prog→Tp
theorem blk.set {w:World} {b:Nat} {l:List Value} {T:TypeId} (h:blk w b l T) (o:Nat) (v:Value):blk (w.setCell ⟨b,o,none⟩ v) b (l.set o v) T:=by
 have:=heap_setCell_same w b o _ _ v h
 simpa[blk] using this
theorem blk.setOther {w:World} {b b':Nat} {l:List Value} {T:TypeId} (h:blk w b l T) (hb:b≠b') (o:Nat) (v:Value):blk (w.setCell ⟨b',o,none⟩ v) b l T:=h.other hb o [v]
abbrev z10:List Value:=zX
structure gS (w:World) (hv gv:List Value) (W:World):Prop where
 p:blk W w.heap.size hv 41
 r:blk W (w.heap.size+1) z10 41
 q:blk W (w.heap.size+1+1) gv 41
 b:Below w.heap.size w W
theorem gS.z {w W:World} {hv gv:List Value} (h:gS w hv gv W):w.heap.size+3≤W.heap.size:=h.q.lt
theorem gS.below {w W W':World} {hv gv:List Value} (h:gS w hv gv W) (hb:Below W.heap.size W W'):gS w hv gv W':=⟨h.p.below hb,h.r.below hb,h.q.below hb,h.b.trans (hb.mono h.b.size)⟩
theorem gS.grown {w W W':World} {hv gv:List Value} {g:Nat} (h:gS w hv gv W) (hg:W.grownBy W' (some g)) (h3:w.heap.size+3≤g):gS w hv gv W':=by
 have hz:=h.z
 exact⟨h.p.kept (hg.block _ (by omega) (by intro e;cases e;omega)),h.r.kept (hg.block _ (by omega) (by intro e;cases e;omega)),h.q.kept (hg.block _ (by omega) (by intro e;cases e;omega)),h.b.grown hg (by omega) (by intro k e;cases e;omega)⟩
theorem gS.set {w W:World} {hv gv:List Value} (h:gS w hv gv W) (o:Nat) (v:Value):gS w hv (gv.set o v) (W.setCell ⟨w.heap.size+1+1,o,none⟩ v):=
 ⟨h.p.setOther (by omega) _ _,h.r.setOther (by omega) _ _,h.q.set _ _,h.b.setCell (by show _≤_+_+_;omega) _⟩
structure hS (w:World) (hv:List Value) (W:World):Prop where
 p:blk W w.heap.size hv 41
 b:Below w.heap.size w W
theorem gS.hs {w W:World} {hv gv:List Value} (h:gS w hv gv W):hS w hv W:=⟨h.p,h.b⟩
theorem sz98:(Tp.info? 178).map (·.size)=some 3:=by kernel_rfl
def rc3:R3→List Value:=fun b=>[bO b.e,I .u32 b.m,I .u32 b.k]
theorem c3_rc (bs:List R3):c3 bs=bs.flatMap rc3:=rfl
theorem c3_snoc (bs:List R3) (k:Nat) (h:k<bs.length):c3 (bs.take k)++rc3 bs[k]=c3 (bs.take (k+1)):=by
 rw[c3_rc,c3_rc,List.take_succ_eq_append_getElem h,List.flatMap_append,List.flatMap_cons,List.flatMap_nil,List.append_nil]
theorem take5 {bs:List R5} {rs:List (R5 × Nat × Nat)} {k:Nat} (h:rs.map (·.1)=bs.take k) (hk:k<bs.length) (p:R5 × Nat × Nat) (hp:p.1=bs[k]):(rs++[p]).map (·.1)=bs.take (k+1):=by
 rw[List.map_append,h,List.take_succ_eq_append_getElem hk,List.map_cons,List.map_nil,hp]
theorem take5_len {bs:List R5} {rs:List (R5 × Nat × Nat)} {k:Nat} (h:rs.map (·.1)=bs.take k) (hk:k≤bs.length):rs.length=k:=by
 have:=congrArg List.length h
 rw[List.length_map,List.length_take] at this
 omega
theorem one5L (e:Bool) (i:Int) (r:Bool) (d:Int) (a:Option Addr) (n c:Nat):∀ u ∈ [Value.bool e,I .u32 i,bO r,I J d,sL a n c],u.oneCell'=true:=by
 intro u hu;simp only[List.mem_cons,List.not_mem_nil,or_false] at hu
 rcases hu with rfl | rfl | rfl | rfl | rfl <;> rfl
structure Kp (B:Nat) (W W':World):Prop where
 same:∀ b,B≤b→b<W.heap.size→W'.heap[b]?=W.heap[b]?
 size:W.heap.size≤W'.heap.size
theorem Kp.refl (B:Nat) (W:World):Kp B W W:=⟨fun _ _ _=>rfl,Nat.le_refl _⟩
theorem Kp.below {B:Nat} {W W' W'':World} (h:Kp B W W') (hb:Below W'.heap.size W' W''):Kp B W W'':=⟨fun b h1 h2=>(hb.block b (Nat.lt_of_lt_of_le h2 h.size)).trans (h.same b h1 h2),Nat.le_trans h.size hb.size⟩
theorem Kp.grown {B:Nat} {W W' W'':World} {g:Nat} (h:Kp B W W') (hg:W'.grownBy W'' (some g)) (hw:W.heap.size≤g):Kp B W W'':=⟨fun b h1 h2=>(hg.block b (Nat.lt_of_lt_of_le h2 h.size) (by intro e;cases e;omega)).trans (h.same b h1 h2),Nat.le_trans h.size hg.size⟩
theorem Kp.set {B:Nat} {W W':World} (h:Kp B W W') (b o:Nat) (hb:b<B) (v:Value):Kp B W (W'.setCell ⟨b,o,none⟩ v):=⟨fun k h1 h2=>(heap_setCell_other _ _ _ _ (by show k≠b;omega)).trans (h.same k h1 h2),by simpa using h.size⟩
theorem St.kp {B:Nat} {W W':World} {p:World→Prop} (h:St B W p) (hk:Kp B W W'):St B W' p:=fun V hV=>h V fun k h1 h2=>(hV k h1 (Nat.lt_of_lt_of_le h2 hk.size)).trans (hk.same k h1 h2)
theorem range_below {w W:World} {g o:Nat} {l:List Value} (h:w.rangeAt g o l) (hb:Below w.heap.size w W) (hg:g<w.heap.size):W.rangeAt g o l:=fun j v hv=>(hb.cell (by exact hg)).trans (h j v hv)
theorem one3L (e:Bool) (m k:Int):∀ u ∈ [Value.bool e,I .u32 m,I .u32 k],u.oneCell'=true:=by
 intro u hu;simp only[List.mem_cons,List.not_mem_nil,or_false] at hu
 rcases hu with rfl | rfl | rfl <;> rfl
set_option linter.unusedVariables false
set_option maxHeartbeats 16000000
def okFr (b:R5):Bool:=validB b.e b.i b.r b.d b.l.length
def okEv (b:R8):Bool:=decide ((1≤b.x∧b.x≤12)∧(0≤b.y∧b.y≤9999)∧(0≤b.z∧b.z≤9)) && validB b.e b.i b.r b.d b.l.length
theorem wrongFrame_any (w:World) (b:R5) (a:Option Addr) (n cap:Nat) (h:isBytes w a n cap b.l) :
  Calls Tp 116 #[frV b.e b.i b.r b.d a n cap] w fun o w'=>o = rT (bO (!okFr b))∧Below w.heap.size w w':=by
 have hlen:=h.len
 have HV:Hid (∀ W,Below w.heap.size w W→Calls Tp 130 #[frV b.e b.i b.r b.d a n cap] W fun o w'=>o = rT (bO (okFr b))∧Below W.heap.size W w'):=fun W hW=>by
  have:=valid_any W b.e b.i b.r b.d a n cap b.l (h.below hW)
  rw[hlen] at this
  unfold okFr
  rw[hlen]
  exact this
 clear h hlen;generalize okFr b=R at *;obtain⟨e,i,r,d,l⟩:=b
 go_enter Tryz.func116,Tryz.ntmps116
 go_wp2_with fail;refine (HV.out _ ((Below.refl _ _).alloc (Nat.le_refl _) _)).mono ?_
 rintro o w1 ⟨rfl,hb1⟩;have HB:Hid (Below w.heap.size w w1):=((Below.refl _ _).alloc (Nat.le_refl _) _).trans (hb1.mono (by simp))
 clear hb1;cases R
 ·go_wp2_with fail;go_ret;exact⟨rfl,HB.out⟩
 ·go_wp2_with fail;go_ret;exact⟨rfl,HB.out⟩
set_option maxRecDepth 20000 in
theorem wrongEvent_any (w:World) (b:R8) (a:Option Addr) (n cap:Nat) (h:isBytes w a n cap b.l) :
  Calls Tp 118 #[bxV b.x b.y b.z b.e b.i b.r b.d a n cap] w fun o w'=>o = rT (bO (!okEv b))∧Below w.heap.size w w':=by
 have HV:Hid (∀ W,Below w.heap.size w W→Calls Tp 116 #[frV b.e b.i b.r b.d a n cap] W fun o w'=>o = rT (bO (!validB b.e b.i b.r b.d b.l.length))∧Below W.heap.size W w'):=fun W hW=>wrongFrame_any W ⟨b.e,b.i,b.r,b.d,b.l⟩ a n cap (h.below hW)
 clear h;have HO:Hid (okEv b=(decide ((1≤b.x∧b.x≤12)∧(0≤b.y∧b.y≤9999)∧(0≤b.z∧b.z≤9)) && validB b.e b.i b.r b.d b.l.length)):=rfl
 generalize okEv b=Q at *;generalize validB b.e b.i b.r b.d b.l.length=R at *;obtain⟨x,y,z,e,i,r,d,l⟩:=b
 simp only[] at HV HO ⊢
 have HA:Hid (Below w.heap.size w (w.alloc (.cells #[I J x,I J y,I J z,bO e,I .u32 (i:Int),bO r,I J d,sL a n cap] 173))):=(Below.refl _ _).alloc (Nat.le_refl _) _
 have hx:decide (1≤x∧x≤12)=true∨decide (1≤x∧x≤12)=false:=by cases decide (1≤x∧x≤12) <;> simp
 have hy:decide (0≤y∧y≤9999)=true∨decide (0≤y∧y≤9999)=false:=by cases decide (0≤y∧y≤9999) <;> simp
 have hz:decide (0≤z∧z≤9)=true∨decide (0≤z∧z≤9)=false:=by cases decide (0≤z∧z≤9) <;> simp
 have HIR:Hid (∀ (W:World) (v l m:Int) (bb:Bool),decide (l≤v∧v≤m)=bb→Calls Tp 66 #[I J v,I J l,I J m] W fun o w'=>o = rT (bO bb)∧W=w'):=fun W v l m bb hbb=>hbb ▸ inRange_any W v l m
 rcases hx with hx|hx
 ·rcases hy with hy|hy
  ·rcases hz with hz|hz
   ·have HQ:Hid (Q=R):=by
     have:=HO.out
     simp only[decide_eq_true_eq] at hx hy hz
     rw[this,decide_eq_true ⟨hx,hy,hz⟩];rfl
    have I1:=fun W=>HIR.out W x 1 12 true hx
    have I2:=fun W=>HIR.out W y 0 9999 true hy
    have I3:=fun W=>HIR.out W z 0 9 true hz
    have J1:Hid (∀ W,Calls Tp 66 #[I J x,I J 1,I J 12] W fun o w'=>o = rT (bO true)∧W=w'):=I1
    have J2:Hid (∀ W,Calls Tp 66 #[I J y,I J 0,I J 9999] W fun o w'=>o = rT (bO true)∧W=w'):=I2
    have J3:Hid (∀ W,Calls Tp 66 #[I J z,I J 0,I J 9] W fun o w'=>o = rT (bO true)∧W=w'):=I3
    clear I1 I2 I3 hx hy hz HIR HO;go_enter Tryz.func118,Tryz.ntmps118
    go_wp2_with (first
     | (go_at_call 66;first | (refine (J1.out _).mono ?_;rintro o w1 ⟨rfl,rfl⟩;clear J1) | (refine (J2.out _).mono ?_;rintro o w1 ⟨rfl,rfl⟩;clear J2) | (refine (J3.out _).mono ?_;rintro o w1 ⟨rfl,rfl⟩;clear J3))
     | (go_at_call 116;refine (HV.out _ HA.out).mono ?_;rintro o w1 ⟨rfl,hb1⟩))
    go_ret;exact⟨ret_bool (by rw[HQ.out]),HA.out.trans (hb1.mono HA.out.size)⟩
   ·have HQ:Hid (Q=false):=by
     have:=HO.out
     simp only[decide_eq_false_iff_not] at hz
     rw[this,decide_eq_false (fun h=>hz h.2.2)];rfl
    have J1:Hid (∀ W,Calls Tp 66 #[I J x,I J 1,I J 12] W fun o w'=>o = rT (bO true)∧W=w'):=fun W=>HIR.out W x 1 12 true hx
    have J2:Hid (∀ W,Calls Tp 66 #[I J y,I J 0,I J 9999] W fun o w'=>o = rT (bO true)∧W=w'):=fun W=>HIR.out W y 0 9999 true hy
    have J3:Hid (∀ W,Calls Tp 66 #[I J z,I J 0,I J 9] W fun o w'=>o = rT (bO false)∧W=w'):=fun W=>HIR.out W z 0 9 false hz
    clear hx hy hz HIR HO HV;go_enter Tryz.func118,Tryz.ntmps118
    go_wp2_with (first
     | (go_at_call 66;first | (refine (J1.out _).mono ?_;rintro o w1 ⟨rfl,rfl⟩;clear J1) | (refine (J2.out _).mono ?_;rintro o w1 ⟨rfl,rfl⟩;clear J2) | (refine (J3.out _).mono ?_;rintro o w1 ⟨rfl,rfl⟩;clear J3)))
    go_ret;exact⟨ret_bool (by rw[HQ.out];rfl),HA.out⟩
  ·have HQ:Hid (Q=false):=by
    have:=HO.out
    simp only[decide_eq_false_iff_not] at hy
    rw[this,decide_eq_false (fun h=>hy h.2.1)];rfl
   have J1:Hid (∀ W,Calls Tp 66 #[I J x,I J 1,I J 12] W fun o w'=>o = rT (bO true)∧W=w'):=fun W=>HIR.out W x 1 12 true hx
   have J2:Hid (∀ W,Calls Tp 66 #[I J y,I J 0,I J 9999] W fun o w'=>o = rT (bO false)∧W=w'):=fun W=>HIR.out W y 0 9999 false hy
   clear hx hy hz HIR HO HV;go_enter Tryz.func118,Tryz.ntmps118
   go_wp2_with (first
    | (go_at_call 66;first | (refine (J1.out _).mono ?_;rintro o w1 ⟨rfl,rfl⟩;clear J1) | (refine (J2.out _).mono ?_;rintro o w1 ⟨rfl,rfl⟩;clear J2)))
   go_ret;exact⟨ret_bool (by rw[HQ.out];rfl),HA.out⟩
 ·have HQ:Hid (Q=false):=by
   have:=HO.out
   simp only[decide_eq_false_iff_not] at hx
   rw[this,decide_eq_false (fun h=>hx h.1)];rfl
  have J1:Hid (∀ W,Calls Tp 66 #[I J x,I J 1,I J 12] W fun o w'=>o = rT (bO false)∧W=w'):=fun W=>HIR.out W x 1 12 false hx
  clear hx hy hz HIR HO HV;go_enter Tryz.func118,Tryz.ntmps118
  go_wp2_with (first
   | (go_at_call 66;refine (J1.out _).mono ?_;rintro o w1 ⟨rfl,rfl⟩))
  go_ret;exact⟨ret_bool (by rw[HQ.out];rfl),HA.out⟩
theorem all_snocG {α:Type} {p:α→Bool} {bs:List α} {k:Nat} (hk:k<bs.length) (h:∀ j (hj:j<bs.length),j<k→p bs[j]=true) (h1:p bs[k]=true):∀ j (hj:j<bs.length),j<k+1→p bs[j]=true:=by
 intro j hj h2;by_cases e:j=k
 ·subst e;exact h1
 ·exact h j hj (by omega)
theorem all_yesG {α:Type} {p:α→Bool} {bs:List α} {k:Nat} (hk:bs.length≤k) (h:∀ j (hj:j<bs.length),j<k→p bs[j]=true):bs.all p=true:=by
 rw[List.all_eq_true]
 intro x hx;obtain⟨j,hj,rfl⟩:=List.getElem_of_mem hx
 exact h j hj (by omega)
theorem all_noG {α:Type} {p:α→Bool} {bs:List α} {k:Nat} (hk:k<bs.length) (h1:p bs[k]=false):bs.all p=false:=by
 rw[List.all_eq_false]
 exact⟨bs[k],List.getElem_mem hk,by rw[h1];simp⟩
theorem indexFrame_any (w:World) (a:Option Addr) (n cap:Nat) (bs:List R5) (h:isR5s w a n cap bs) (hn:n≤1048576) :
  Calls Tp 153 #[sL a n cap,.func (.func 116) #[] #[]] w fun o w'=>∃ z:Int,o = rT (I J z)∧decide (0≤z) = !bs.all okFr∧Below w.heap.size w w':=by
 have hlen:=h.len
 have hcp:=h.cap
 by_cases hl:bs=[]
 ·subst hl;have hn0:n=0:=hlen
  subst hn0;clear hlen h;go_enter Tryz.func153,Tryz.ntmps153
  go_wp2
  go_loopw [8] (fun i wr=>i = I J 0∧wr=w) (fun _ _=>0)
  case atStart=>exact⟨rfl,rfl⟩
  case round=>
   obtain⟨rfl,rfl⟩:=hrel
   go_wp2
   go_ret;exact⟨-1,rfl,rfl,Below.refl _ _⟩
 ·obtain⟨g,off,rfl,hc⟩:=h.cells hl
  have HL:Hid (n=bs.length):=hlen
  have HC:Hid (∀ j (h:j<bs.length),∃ ao m c,at5 w g (off+j*5) bs[j] ao m c):=hc
  clear h hlen hc;go_enter Tryz.func153,Tryz.ntmps153
  go_wp2
  go_loopw [8] (fun i wr=>∃ k:Nat,k≤n∧i = I J (k:Int)∧(∀ j (hj:j<bs.length),j<k→okFr bs[j]=true)∧Below w.heap.size w wr) (fun i _=>n-(intOf i).toNat)
  case atStart=>exact⟨0,Nat.zero_le _,rfl,fun j hj h=>absurd h (Nat.not_lt_zero _),Below.refl _ _⟩
  case round=>
   obtain⟨k,hk,rfl,hdone,hb⟩:=hrel
   by_cases hlt:k<n
   ·have hkl:k<bs.length:=by have:=HL.out;omega
    obtain⟨ao,m,c,hx⟩:=HC.out k hkl
    have hx':=hx.below hb
    have HRG:Hid (wr.rangeAt g (off+k*5) [bO bs[k].e,I .u32 (bs[k].i:Int),bO bs[k].r,I J bs[k].d,sL ao m c]):=hx'.range
    have HW:Hid (Calls Tp 116 #[frV bs[k].e bs[k].i bs[k].r bs[k].d ao m c] wr fun o w'=>o = rT (bO (!okFr bs[k]))∧Below wr.heap.size wr w'):=wrongFrame_any wr bs[k] ao m c hx'.dat
    have HB:Hid (Below w.heap.size w wr):=hb
    have HD:Hid (∀ j (hj:j<bs.length),j<k→okFr bs[j]=true):=hdone
    clear hx hx' hb hdone;cases hok:okFr bs[k]
    ·have HN:Hid (bs.all okFr=false):=all_noG hkl hok
     rw[hok] at HW
     clear hok;generalize bs[k].e=e0 at *;generalize bs[k].i=i0 at *;generalize bs[k].r=r0 at *;generalize bs[k].d=d0 at *;go_wp2_with (first
      | (refine wpList_load_mid (P:=Tp) rfl 67 _ rfl g (off+k*5) rfl _ _ HRG.out Tryz.underlying67 rfl sz93 ?_)
      | (go_at_call 116;refine HW.out.mono ?_;rintro o w5 ⟨rfl,hb5⟩))
     go_ret;exact⟨_,rfl,by rw[HN.out];simp,HB.out.trans (hb5.mono HB.out.size)⟩
    ·have HN:Hid (∀ j (hj:j<bs.length),j<k+1→okFr bs[j]=true):=all_snocG hkl HD.out hok
     rw[hok] at HW
     clear hok;generalize bs[k].e=e0 at *;generalize bs[k].i=i0 at *;generalize bs[k].r=r0 at *;generalize bs[k].d=d0 at *;go_wp2_with (first
      | (refine wpList_load_mid (P:=Tp) rfl 67 _ rfl g (off+k*5) rfl _ _ HRG.out Tryz.underlying67 rfl sz93 ?_)
      | (go_at_call 116;refine HW.out.mono ?_;rintro o w5 ⟨rfl,hb5⟩))
     go_roundw
     case rel=>exact⟨k+1,by omega,by go_num,HN.out,HB.out.trans (hb5.mono HB.out.size)⟩
     case measure=>simp[intOf];omega
   ·have HN:Hid (bs.all okFr=true):=all_yesG (by have:=HL.out;omega) hdone
    clear hdone;go_wp2
    go_ret;exact⟨_,rfl,by rw[HN.out];simp,hb⟩
theorem containsFrame_any (w:World) (a:Option Addr) (n cap:Nat) (bs:List R5) (h:isR5s w a n cap bs) (hn:n≤1048576) :
  Calls Tp 115 #[sL a n cap,.func (.func 116) #[] #[]] w fun o w'=>o = rT (bO (!bs.all okFr))∧Below w.heap.size w w':=by
 have HI:Hid (Calls Tp 153 #[sL a n cap,.func (.func 116) #[] #[]] w fun o w'=>∃ z:Int,o = rT (I J z)∧decide (0≤z) = !bs.all okFr∧Below w.heap.size w w'):=indexFrame_any w a n cap bs h hn
 clear h;go_enter Tryz.func115,Tryz.ntmps115
 go_wp2_with (first | (go_at_call 153;refine HI.out.mono ?_;rintro o w5 ⟨z,rfl,hz,hb5⟩;have HZ:Hid (decide (0≤z) = !bs.all okFr):=hz;clear hz))
 go_ret;exact⟨ret_bool HZ.out,hb5⟩
theorem indexEvent_any (w:World) (a:Option Addr) (n cap:Nat) (bs:List R8) (h:isR8s w a n cap bs) (hn:n≤1048576) :
  Calls Tp 154 #[sL a n cap,.func (.func 118) #[] #[]] w fun o w'=>∃ z:Int,o = rT (I J z)∧decide (0≤z) = !bs.all okEv∧Below w.heap.size w w':=by
 have hlen:=h.len
 have hcp:=h.cap
 by_cases hl:bs=[]
 ·subst hl;have hn0:n=0:=hlen
  subst hn0;clear hlen h;go_enter Tryz.func154,Tryz.ntmps154
  go_wp2
  go_loopw [8] (fun i wr=>i = I J 0∧wr=w) (fun _ _=>0)
  case atStart=>exact⟨rfl,rfl⟩
  case round=>
   obtain⟨rfl,rfl⟩:=hrel
   go_wp2
   go_ret;exact⟨-1,rfl,rfl,Below.refl _ _⟩
 ·obtain⟨g,off,rfl,hc⟩:=h.cells hl
  have HL:Hid (n=bs.length):=hlen
  have HC:Hid (∀ j (h:j<bs.length),∃ ao m c,at8 w g (off+j*8) bs[j] ao m c):=hc
  clear h hlen hc;go_enter Tryz.func154,Tryz.ntmps154
  go_wp2
  go_loopw [8] (fun i wr=>∃ k:Nat,k≤n∧i = I J (k:Int)∧(∀ j (hj:j<bs.length),j<k→okEv bs[j]=true)∧Below w.heap.size w wr) (fun i _=>n-(intOf i).toNat)
  case atStart=>exact⟨0,Nat.zero_le _,rfl,fun j hj h=>absurd h (Nat.not_lt_zero _),Below.refl _ _⟩
  case round=>
   obtain⟨k,hk,rfl,hdone,hb⟩:=hrel
   by_cases hlt:k<n
   ·have hkl:k<bs.length:=by have:=HL.out;omega
    obtain⟨ao,m,c,hx⟩:=HC.out k hkl
    have hx':=hx.below hb
    have HRG:Hid (wr.rangeAt g (off+k*8) [I J bs[k].x,I J bs[k].y,I J bs[k].z,bO bs[k].e,I .u32 (bs[k].i:Int),bO bs[k].r,I J bs[k].d,sL ao m c]):=hx'.range
    have HW:Hid (Calls Tp 118 #[bxV bs[k].x bs[k].y bs[k].z bs[k].e bs[k].i bs[k].r bs[k].d ao m c] wr fun o w'=>o = rT (bO (!okEv bs[k]))∧Below wr.heap.size wr w'):=wrongEvent_any wr bs[k] ao m c hx'.dat
    have HB:Hid (Below w.heap.size w wr):=hb
    have HD:Hid (∀ j (hj:j<bs.length),j<k→okEv bs[j]=true):=hdone
    clear hx hx' hb hdone;cases hok:okEv bs[k]
    ·have HN:Hid (bs.all okEv=false):=all_noG hkl hok
     rw[hok] at HW
     clear hok;generalize bs[k].x=x0 at *;generalize bs[k].y=y0 at *;generalize bs[k].z=z0 at *;generalize bs[k].e=e0 at *;generalize bs[k].i=i0 at *;generalize bs[k].r=r0 at *;generalize bs[k].d=d0 at *;go_wp2_with (first
      | (refine wpList_load_mid (P:=Tp) rfl 173 _ rfl g (off+k*8) rfl _ _ HRG.out Tryz.underlying173 rfl sz129 ?_)
      | (go_at_call 118;refine HW.out.mono ?_;rintro o w5 ⟨rfl,hb5⟩))
     go_ret;exact⟨_,rfl,by rw[HN.out];simp,HB.out.trans (hb5.mono HB.out.size)⟩
    ·have HN:Hid (∀ j (hj:j<bs.length),j<k+1→okEv bs[j]=true):=all_snocG hkl HD.out hok
     rw[hok] at HW
     clear hok;generalize bs[k].x=x0 at *;generalize bs[k].y=y0 at *;generalize bs[k].z=z0 at *;generalize bs[k].e=e0 at *;generalize bs[k].i=i0 at *;generalize bs[k].r=r0 at *;generalize bs[k].d=d0 at *;go_wp2_with (first
      | (refine wpList_load_mid (P:=Tp) rfl 173 _ rfl g (off+k*8) rfl _ _ HRG.out Tryz.underlying173 rfl sz129 ?_)
      | (go_at_call 118;refine HW.out.mono ?_;rintro o w5 ⟨rfl,hb5⟩))
     go_roundw
     case rel=>exact⟨k+1,by omega,by go_num,HN.out,HB.out.trans (hb5.mono HB.out.size)⟩
     case measure=>simp[intOf];omega
   ·have HN:Hid (bs.all okEv=true):=all_yesG (by have:=HL.out;omega) hdone
    clear hdone;go_wp2
    go_ret;exact⟨_,rfl,by rw[HN.out];simp,hb⟩
theorem containsEvent_any (w:World) (a:Option Addr) (n cap:Nat) (bs:List R8) (h:isR8s w a n cap bs) (hn:n≤1048576) :
  Calls Tp 117 #[sL a n cap,.func (.func 118) #[] #[]] w fun o w'=>o = rT (bO (!bs.all okEv))∧Below w.heap.size w w':=by
 have HI:Hid (Calls Tp 154 #[sL a n cap,.func (.func 118) #[] #[]] w fun o w'=>∃ z:Int,o = rT (I J z)∧decide (0≤z) = !bs.all okEv∧Below w.heap.size w w'):=indexEvent_any w a n cap bs h hn
 clear h;go_enter Tryz.func117,Tryz.ntmps117
 go_wp2_with (first | (go_at_call 154;refine HI.out.mono ?_;rintro o w5 ⟨z,rfl,hz,hb5⟩;have HZ:Hid (decide (0≤z) = !bs.all okEv):=hz;clear hz))
 go_ret;exact⟨ret_bool HZ.out,hb5⟩
def retB (o:Ending) (P:Prop):Prop:=∃ b:Bool,o = rT (bO b)∧(b=true↔P)
def hoL (H:Ho) (s:Sl):List Value:=[I J H.c0,I J H.c1,I J H.c2,I J H.c3,sL s.a1 s.n1 s.k1,sL s.a2 s.n2 s.k2,sL s.a3 s.n3 s.k3,sL s.a4 s.n4 s.k4,I J H.lo,I J H.st]
theorem hoV_L (H:Ho) (s:Sl):hoV H s = aG (hoL H s).toArray:=rfl
theorem hoL_len (H:Ho) (s:Sl):(hoL H s).length=10:=rfl
theorem sz41L (H:Ho) (s:Sl):(Tp.info? 41).map (·.size)=some (hoL H s).length:=sz41
theorem sz41A (H:Ho) (s:Sl):(Tp.info? 41).map (·.size)=some (hoL H s).toArray.size:=sz41
theorem hoL_one (H:Ho) (s:Sl):(hoL H s).toArray.all (·.oneCell')=true:=all_oneCell_toArray (by simp[hoL,Value.oneCell'])
def zFr (e:Bool) (i:Nat) (r:Bool) (d:Int) (n:Nat):Prop:=e=false∧i=0∧r=false∧d=0∧n=0
theorem l3zeroFrame_any (w:World) (e:Bool) (i:Nat) (r:Bool) (d:Int) (a:Option Addr) (n cap:Nat) :
  Calls Tp 99 #[frV e i r d a n cap] w fun o w'=>retB o (zFr e i r d n)∧Below w.heap.size w w':=by
 have HB:Hid (Below w.heap.size w (w.alloc (.cells #[bO e,I .u32 (i:Int),bO r,I J d,sL a n cap] 67))):=(Below.refl _ _).alloc (Nat.le_refl _) _
 cases e
 ·by_cases hi:i=0
  ·subst hi;cases r
   ·by_cases hd:d=0
    ·subst hd;go_enter Tryz.func99,Tryz.ntmps99
     go_wp2
     go_ret;refine⟨⟨_,rfl,?_⟩,HB.out⟩
     unfold zFr
     simp
     try omega
    ·have hd':(d == 0)=false:=by simpa using hd
     clear hd;go_enter Tryz.func99,Tryz.ntmps99
     go_wp2
     go_ret;refine⟨⟨_,rfl,?_⟩,HB.out⟩
     unfold zFr
     simp at hd'
     simp[hd']
   ·go_enter Tryz.func99,Tryz.ntmps99
    go_wp2
    go_ret;refine⟨⟨_,rfl,?_⟩,HB.out⟩
    unfold zFr
    simp
  ·have hi':((i:Int) == 0)=false:=by simpa using hi
   clear hi;go_enter Tryz.func99,Tryz.ntmps99
   go_wp2
   go_ret;refine⟨⟨_,rfl,?_⟩,HB.out⟩
   unfold zFr
   simp at hi'
   simp[hi']
 ·go_enter Tryz.func99,Tryz.ntmps99
  go_wp2
  go_ret;refine⟨⟨_,rfl,?_⟩,HB.out⟩
  unfold zFr
  simp
structure Co where
 p:Int
 ct:Int
 lv:Int
 wk:Bool
 ov:Bool
 ow:Bool
 tx:Bool
 ak:Bool
 rn:Int
 te:Int
 re:Int
 ho:Ho
abbrev coV (C:Co) (s:Sl):Value:=aG #[I J C.p,I J C.ct,I J C.lv,bO C.wk,bO C.ov,bO C.ow,bO C.tx,bO C.ak,I J C.rn,I J C.te,I J C.re,I J C.ho.c0,I J C.ho.c1,I J C.ho.c2,I J C.ho.c3,sL s.a1 s.n1 s.k1,sL s.a2 s.n2 s.k2,sL s.a3 s.n3 s.k3,sL s.a4 s.n4 s.k4,I J C.ho.lo,I J C.ho.st]
set_option maxRecDepth 40000 in
theorem szCore_any (w:World) (C:Co) (s:Sl) (h:isHo w C.ho s) (hn:C.ho.le 9223372036854775807) :
  Calls Tp 11 #[coV C s,I J 1048576] w fun o w'=>∃ z:Int,o = rT (I J z)∧Below w.heap.size w w'∧(z = -1∨∃ m':Nat,z=(m':Int)∧C.ho.le 1048576):=by
 have HC:Hid (∀ X,Below w.heap.size w X→Calls Tp 24 #[hoV C.ho s,I J 1048576] X fun o w'=>∃ z:Int,o = rT (I J z)∧Below w.heap.size w w'∧(z = -1∨∃ m':Nat,z=(m':Int)∧C.ho.le 1048576)):=by
  intro X hX;refine (szHost_any X C.ho s (h.below hX) hn 1048576 (by omega)).mono ?_
  rintro o w' ⟨z,rfl,h1,h2⟩;exact⟨z,rfl,hX.trans (h1.mono hX.size),h2⟩
 clear h hn;obtain⟨p,ct,lv,wk,ov,ow,tx,ak,rn,te,re,⟨c0,c1,c2,c3,fs,bx,ff,qu,lo,st⟩⟩:=C
 obtain⟨a1,n1,k1,a2,n2,k2,a3,n3,k3,a4,n4,k4⟩:=s
 go_enter Tryz.func11,Tryz.ntmps11
 go_wp2_with (first | (go_at_call 24;refine (HC.out _ ((Below.refl _ _).alloc (Nat.le_refl _) _)).mono ?_;rintro o w2 ⟨z,rfl,B2,h2⟩;have HB2:Hid (Below w.heap.size w w2):=B2;clear B2;rcases h2 with rfl | ⟨m',rfl,hle⟩))
 ·go_ret;exact⟨_,rfl,HB2.out,.inl rfl⟩
 ·go_ret;exact⟨_,rfl,HB2.out,.inr ⟨m',rfl,hle⟩⟩
set_option maxRecDepth 40000 in
theorem eqCore_same (w:World) (C:Co) (s s':Sl) (h:isHo w C.ho s) (h':isHo w C.ho s') (hn:C.ho.le 1048576) :
  Calls Tp 21 #[coV C s,coV C s'] w fun o w'=>o = rT (bO true)∧Below w.heap.size w w':=by
 have HC:Hid (∀ X,Below w.heap.size w X→Calls Tp 39 #[hoV C.ho s,hoV C.ho s'] X fun o w'=>o = rT (bO true)∧Below w.heap.size w w'):=by
  intro X hX;refine (eqHost_same X C.ho s s' (h.below hX) (h'.below hX) hn).mono ?_
  rintro o w' ⟨rfl,h1⟩;exact⟨rfl,hX.trans (h1.mono hX.size)⟩
 clear h h' hn;obtain⟨p,ct,lv,wk,ov,ow,tx,ak,rn,te,re,⟨c0,c1,c2,c3,fs,bx,ff,qu,lo,st⟩⟩:=C
 obtain⟨a1,n1,k1,a2,n2,k2,a3,n3,k3,a4,n4,k4⟩:=s
 obtain⟨b1,m1,l1,b2,m2,l2,b3,m3,l3,b4,m4,l4⟩:=s'
 have hb:∀ b:Bool,(b != b)=false:=by intro b;simp
 have hi:∀ i:Int,(i != i)=false:=by intro i;simp
 go_enter Tryz.func21,Tryz.ntmps21
 go_wp2_with (first | (go_at_call 39;refine (HC.out _ (((Below.refl _ _).alloc (Nat.le_refl _) _).alloc (by simp) _)).mono ?_;rintro o w2 ⟨rfl,B2⟩))
 go_ret;exact⟨rfl,B2⟩
def coL (C:Co) (s:Sl):List Value:=[I J C.p,I J C.ct,I J C.lv,bO C.wk,bO C.ov,bO C.ow,bO C.tx,bO C.ak,I J C.rn,I J C.te,I J C.re,I J C.ho.c0,I J C.ho.c1,I J C.ho.c2,I J C.ho.c3,sL s.a1 s.n1 s.k1,sL s.a2 s.n2 s.k2,sL s.a3 s.n3 s.k3,sL s.a4 s.n4 s.k4,I J C.ho.lo,I J C.ho.st]
def coM (C:Co):List Value:=[I J C.p,I J C.ct,I J C.lv,bO C.wk,bO C.ov,bO C.ow,bO C.tx,bO C.ak,I J C.rn,I J C.te,I J C.re]
theorem coV_L (C:Co) (s:Sl):coV C s = aG (coL C s).toArray:=rfl
theorem coL_len (C:Co) (s:Sl):(coL C s).length=21:=rfl
theorem coL_M (C:Co) (s:Sl):coL C s=coM C++hoL C.ho s:=rfl
theorem coL_one (C:Co) (s:Sl):(coL C s).toArray.all (·.oneCell')=true:=all_oneCell_toArray (by simp[coL,Value.oneCell'])
theorem szC41:(Tp.info? 43).map (·.size)=some 21:=by kernel_rfl
theorem szC41L (C:Co) (s:Sl):(Tp.info? 43).map (·.size)=some (coL C s).length:=szC41
theorem szC41A (C:Co) (s:Sl):(Tp.info? 43).map (·.size)=some (coL C s).toArray.size:=szC41
def Z21:List Value:=[I J 0,I J 0,I J 0,bO false,bO false,bO false,bO false,bO false,I J 0,I J 0,I J 0,I J 0,I J 0,I J 0,I J 0,sL none 0 0,sL none 0 0,sL none 0 0,sL none 0 0,I J 0,I J 0]
theorem blk.hostAt {w:World} {b:Nat} {C:Co} {s:Sl} {T:TypeId} (h:blk w b (coL C s) T):w.rangeAt b 11 (hoL C.ho s):=by
 have h':blk w b (coM C++hoL C.ho s++[]) T:=by rw[List.append_nil,← coL_M];exact h
 exact h'.loadAt (coM C) (hoL C.ho s) []
theorem sz39h (H:Ho) (s:Sl):(Tp.info? 41).map (·.size)=some (hoL H s).length:=by kernel_rfl
structure ctS (w:World) (b:Nat) (C:Co) (s:Sl) (W:World):Prop where
 p:blk W b (coL C s) 43
 b:Below w.heap.size w W
theorem ctS.below {w:World} {b:Nat} {C:Co} {s:Sl} {W W':World} (h:ctS w b C s W) (hb:Below W.heap.size W W'):ctS w b C s W':=⟨h.p.below hb,h.b.trans (hb.mono h.b.size)⟩
theorem ctS.new (w:World) (C:Co) (s:Sl):ctS w w.heap.size C s (w.alloc (.cells (coL C s).toArray 43)):=⟨blk.new w _ 43,(Below.refl _ _).alloc (Nat.le_refl _) _⟩
end Go.Proofs.YtbllefckefhpoaaGreat
