import Derived.Test.YtaamahohdnbpiaaGreatG04
import Derived.Test.YtaamahohdnbpiaaGreatVA
namespace Go.Proofs.YtaamahohdnbpiaaGreat
open Go.RowKit
set_option linter.unusedVariables false
def okFr (b:R5):Bool:=validB b.e b.i b.r b.d b.l.length
def okEv (b:R8):Bool:=decide ((1≤b.x∧b.x≤12)∧(0≤b.y∧b.y≤9999)∧(0≤b.z∧b.z≤9)) && validB b.e b.i b.r b.d b.l.length
theorem wrongFrame_any (w:World) (b:R5) (a:Option Addr) (n cap:Nat) (h:isBytes w a n cap b.l) :
  Calls Tryz.prog 126 #[frV b.e b.i b.r b.d a n cap] w fun o w'=>o = .returned (.bool (!okFr b))∧Below w.heap.size w w':=by
 have hlen:=h.len
 have HV:Hid (∀ W,Below w.heap.size w W→Calls Tryz.prog 153 #[frV b.e b.i b.r b.d a n cap] W fun o w'=>o = .returned (.bool (okFr b))∧Below W.heap.size W w'):=fun W hW=>by
  have:=valid_any W b.e b.i b.r b.d a n cap b.l (h.below hW)
  rw[hlen] at this
  unfold okFr
  rw[hlen]
  exact this
 clear h hlen;generalize okFr b=R at *;obtain⟨e,i,r,d,l⟩:=b
 go_enter Tryz.func126,Tryz.ntmps126
 go_wp2_with fail;refine (HV.out _ ((Below.refl _ _).alloc (Nat.le_refl _) _)).mono ?_
 rintro o w1 ⟨rfl,hb1⟩;have HB:Hid (Below w.heap.size w w1):=((Below.refl _ _).alloc (Nat.le_refl _) _).trans (hb1.mono (by simp))
 clear hb1;cases R
 ·go_wp2_with fail;go_ret;exact⟨rfl,HB.out⟩
 ·go_wp2_with fail;go_ret;exact⟨rfl,HB.out⟩
set_option maxHeartbeats 2000000 in
set_option maxRecDepth 20000 in
theorem wrongEvent_any (w:World) (b:R8) (a:Option Addr) (n cap:Nat) (h:isBytes w a n cap b.l) :
  Calls Tryz.prog 128 #[bxV b.x b.y b.z b.e b.i b.r b.d a n cap] w fun o w'=>o = .returned (.bool (!okEv b))∧Below w.heap.size w w':=by
 have HV:Hid (∀ W,Below w.heap.size w W→Calls Tryz.prog 126 #[frV b.e b.i b.r b.d a n cap] W fun o w'=>o = .returned (.bool (!validB b.e b.i b.r b.d b.l.length))∧Below W.heap.size W w'):=fun W hW=>wrongFrame_any W ⟨b.e,b.i,b.r,b.d,b.l⟩ a n cap (h.below hW)
 clear h;have HO:Hid (okEv b=(decide ((1≤b.x∧b.x≤12)∧(0≤b.y∧b.y≤9999)∧(0≤b.z∧b.z≤9)) && validB b.e b.i b.r b.d b.l.length)):=rfl
 generalize okEv b=Q at *;generalize validB b.e b.i b.r b.d b.l.length=R at *;obtain⟨x,y,z,e,i,r,d,l⟩:=b
 simp only[] at HV HO ⊢
 have HA:Hid (Below w.heap.size w (w.alloc (.cells #[.int .i64 x,.int .i64 y,.int .i64 z,.bool e,.int .u32 (i:Int),.bool r,.int .i64 d,.slice a n cap] 46))):=(Below.refl _ _).alloc (Nat.le_refl _) _
 have hx:decide (1≤x∧x≤12)=true∨decide (1≤x∧x≤12)=false:=by cases decide (1≤x∧x≤12) <;> simp
 have hy:decide (0≤y∧y≤9999)=true∨decide (0≤y∧y≤9999)=false:=by cases decide (0≤y∧y≤9999) <;> simp
 have hz:decide (0≤z∧z≤9)=true∨decide (0≤z∧z≤9)=false:=by cases decide (0≤z∧z≤9) <;> simp
 have HIR:Hid (∀ (W:World) (v l m:Int) (bb:Bool),decide (l≤v∧v≤m)=bb→Calls Tryz.prog 115 #[.int .i64 v,.int .i64 l,.int .i64 m] W fun o w'=>o = .returned (.bool bb)∧W=w'):=fun W v l m bb hbb=>hbb ▸ inRange_any W v l m
 rcases hx with hx|hx
 ·rcases hy with hy|hy
  ·rcases hz with hz|hz
   ·have HQ:Hid (Q=R):=by
     have:=HO.out
     simp only[decide_eq_true_eq] at hx hy hz
     rw[this,decide_eq_true ⟨hx,hy,hz⟩];rfl
    have I1:=fun W=>HIR.out W x 1 12 true hx
    have I2:=fun W=>HIR.out W y 0 9999 true hy
    have I3:=fun W=>HIR.out W z 0 9 true hz
    have J1:Hid (∀ W,Calls Tryz.prog 115 #[.int .i64 x,.int .i64 1,.int .i64 12] W fun o w'=>o = .returned (.bool true)∧W=w'):=I1
    have J2:Hid (∀ W,Calls Tryz.prog 115 #[.int .i64 y,.int .i64 0,.int .i64 9999] W fun o w'=>o = .returned (.bool true)∧W=w'):=I2
    have J3:Hid (∀ W,Calls Tryz.prog 115 #[.int .i64 z,.int .i64 0,.int .i64 9] W fun o w'=>o = .returned (.bool true)∧W=w'):=I3
    clear I1 I2 I3 hx hy hz HIR HO;go_enter Tryz.func128,Tryz.ntmps128
    go_wp2_with (first
     | (go_at_call 115;first | (refine (J1.out _).mono ?_;rintro o w1 ⟨rfl,rfl⟩;clear J1) | (refine (J2.out _).mono ?_;rintro o w1 ⟨rfl,rfl⟩;clear J2) | (refine (J3.out _).mono ?_;rintro o w1 ⟨rfl,rfl⟩;clear J3))
     | (go_at_call 126;refine (HV.out _ HA.out).mono ?_;rintro o w1 ⟨rfl,hb1⟩))
    go_ret;exact⟨ret_bool (by rw[HQ.out]),HA.out.trans (hb1.mono HA.out.size)⟩
   ·have HQ:Hid (Q=false):=by
     have:=HO.out
     simp only[decide_eq_false_iff_not] at hz
     rw[this,decide_eq_false (fun h=>hz h.2.2)];rfl
    have J1:Hid (∀ W,Calls Tryz.prog 115 #[.int .i64 x,.int .i64 1,.int .i64 12] W fun o w'=>o = .returned (.bool true)∧W=w'):=fun W=>HIR.out W x 1 12 true hx
    have J2:Hid (∀ W,Calls Tryz.prog 115 #[.int .i64 y,.int .i64 0,.int .i64 9999] W fun o w'=>o = .returned (.bool true)∧W=w'):=fun W=>HIR.out W y 0 9999 true hy
    have J3:Hid (∀ W,Calls Tryz.prog 115 #[.int .i64 z,.int .i64 0,.int .i64 9] W fun o w'=>o = .returned (.bool false)∧W=w'):=fun W=>HIR.out W z 0 9 false hz
    clear hx hy hz HIR HO HV;go_enter Tryz.func128,Tryz.ntmps128
    go_wp2_with (first
     | (go_at_call 115;first | (refine (J1.out _).mono ?_;rintro o w1 ⟨rfl,rfl⟩;clear J1) | (refine (J2.out _).mono ?_;rintro o w1 ⟨rfl,rfl⟩;clear J2) | (refine (J3.out _).mono ?_;rintro o w1 ⟨rfl,rfl⟩;clear J3)))
    go_ret;exact⟨ret_bool (by rw[HQ.out];rfl),HA.out⟩
  ·have HQ:Hid (Q=false):=by
    have:=HO.out
    simp only[decide_eq_false_iff_not] at hy
    rw[this,decide_eq_false (fun h=>hy h.2.1)];rfl
   have J1:Hid (∀ W,Calls Tryz.prog 115 #[.int .i64 x,.int .i64 1,.int .i64 12] W fun o w'=>o = .returned (.bool true)∧W=w'):=fun W=>HIR.out W x 1 12 true hx
   have J2:Hid (∀ W,Calls Tryz.prog 115 #[.int .i64 y,.int .i64 0,.int .i64 9999] W fun o w'=>o = .returned (.bool false)∧W=w'):=fun W=>HIR.out W y 0 9999 false hy
   clear hx hy hz HIR HO HV;go_enter Tryz.func128,Tryz.ntmps128
   go_wp2_with (first
    | (go_at_call 115;first | (refine (J1.out _).mono ?_;rintro o w1 ⟨rfl,rfl⟩;clear J1) | (refine (J2.out _).mono ?_;rintro o w1 ⟨rfl,rfl⟩;clear J2)))
   go_ret;exact⟨ret_bool (by rw[HQ.out];rfl),HA.out⟩
 ·have HQ:Hid (Q=false):=by
   have:=HO.out
   simp only[decide_eq_false_iff_not] at hx
   rw[this,decide_eq_false (fun h=>hx h.1)];rfl
  have J1:Hid (∀ W,Calls Tryz.prog 115 #[.int .i64 x,.int .i64 1,.int .i64 12] W fun o w'=>o = .returned (.bool false)∧W=w'):=fun W=>HIR.out W x 1 12 false hx
  clear hx hy hz HIR HO HV;go_enter Tryz.func128,Tryz.ntmps128
  go_wp2_with (first
   | (go_at_call 115;refine (J1.out _).mono ?_;rintro o w1 ⟨rfl,rfl⟩))
  go_ret;exact⟨ret_bool (by rw[HQ.out];rfl),HA.out⟩
theorem all_snocG {α:Type} {p:α→Bool} {bs:List α} {k:Nat} (hk:k<bs.length) (h:∀ j (hj:j<bs.length),j<k→p bs[j]=true) (h1:p bs[k]=true):∀ j (hj:j<bs.length),j<k+1→p bs[j]=true:=by
 intro j hj h2;by_cases e:j=k
 ·subst e;exact h1
 ·exact h j hj (by omega)
theorem all_yesG {α:Type} {p:α→Bool} {bs:List α} {k:Nat} (hk:bs.length≤k) (h:∀ j (hj:j<bs.length),j<k→p bs[j]=true):bs.all p=true:=by
 rw[List.all_eq_true]
 intro x hx;obtain⟨j,hj,rfl⟩:=List.getElem_of_mem hx
 exact h j hj (by omega)
theorem all_noG {α:Type} {p:α→Bool} {bs:List α} {k:Nat} (hk:k<bs.length) (h1:p bs[k]=false):bs.all p=false:=by
 rw[List.all_eq_false]
 exact⟨bs[k],List.getElem_mem hk,by rw[h1];simp⟩
set_option maxHeartbeats 4000000 in
theorem indexFrame_any (w:World) (a:Option Addr) (n cap:Nat) (bs:List R5) (h:isR5s w a n cap bs) (hn:n≤1048576) :
  Calls Tryz.prog 169 #[.slice a n cap,.func (.func 126) #[] #[]] w fun o w'=>∃ z:Int,o = .returned (.int .i64 z)∧decide (0≤z) = !bs.all okFr∧Below w.heap.size w w':=by
 have hlen:=h.len
 have hcp:=h.cap
 by_cases hl:bs=[]
 ·subst hl;have hn0:n=0:=hlen
  subst hn0;clear hlen h;go_enter Tryz.func169,Tryz.ntmps169
  go_wp2
  go_loopw [8] (fun i wr=>i = .int .i64 0∧wr=w) (fun _ _=>0)
  case atStart=>exact⟨rfl,rfl⟩
  case round=>
   obtain⟨rfl,rfl⟩:=hrel
   go_wp2
   go_ret;exact⟨-1,rfl,rfl,Below.refl _ _⟩
 ·obtain⟨g,off,rfl,hc⟩:=h.cells hl
  have HL:Hid (n=bs.length):=hlen
  have HC:Hid (∀ j (h:j<bs.length),∃ ao m c,at5 w g (off+j*5) bs[j] ao m c):=hc
  clear h hlen hc;go_enter Tryz.func169,Tryz.ntmps169
  go_wp2
  go_loopw [8] (fun i wr=>∃ k:Nat,k≤n∧i = .int .i64 (k:Int)∧(∀ j (hj:j<bs.length),j<k→okFr bs[j]=true)∧Below w.heap.size w wr) (fun i _=>n-(intOf i).toNat)
  case atStart=>exact⟨0,Nat.zero_le _,rfl,fun j hj h=>absurd h (Nat.not_lt_zero _),Below.refl _ _⟩
  case round=>
   obtain⟨k,hk,rfl,hdone,hb⟩:=hrel
   by_cases hlt:k<n
   ·have hkl:k<bs.length:=by have:=HL.out;omega
    obtain⟨ao,m,c,hx⟩:=HC.out k hkl
    have hx':=hx.below hb
    have HRG:Hid (wr.rangeAt g (off+k*5) [.bool bs[k].e,.int .u32 (bs[k].i:Int),.bool bs[k].r,.int .i64 bs[k].d,.slice ao m c]):=hx'.range
    have HW:Hid (Calls Tryz.prog 126 #[frV bs[k].e bs[k].i bs[k].r bs[k].d ao m c] wr fun o w'=>o = .returned (.bool (!okFr bs[k]))∧Below wr.heap.size wr w'):=wrongFrame_any wr bs[k] ao m c hx'.dat
    have HB:Hid (Below w.heap.size w wr):=hb
    have HD:Hid (∀ j (hj:j<bs.length),j<k→okFr bs[j]=true):=hdone
    clear hx hx' hb hdone;cases hok:okFr bs[k]
    ·have HN:Hid (bs.all okFr=false):=all_noG hkl hok
     rw[hok] at HW
     clear hok;generalize bs[k].e=e0 at *;generalize bs[k].i=i0 at *;generalize bs[k].r=r0 at *;generalize bs[k].d=d0 at *;go_wp2_with (first
      | (refine wpList_load_mid (P:=Tryz.prog) rfl 25 _ rfl g (off+k*5) rfl _ _ HRG.out Tryz.underlying25 rfl sz93 ?_)
      | (go_at_call 126;refine HW.out.mono ?_;rintro o w5 ⟨rfl,hb5⟩))
     go_ret;exact⟨_,rfl,by rw[HN.out];simp,HB.out.trans (hb5.mono HB.out.size)⟩
    ·have HN:Hid (∀ j (hj:j<bs.length),j<k+1→okFr bs[j]=true):=all_snocG hkl HD.out hok
     rw[hok] at HW
     clear hok;generalize bs[k].e=e0 at *;generalize bs[k].i=i0 at *;generalize bs[k].r=r0 at *;generalize bs[k].d=d0 at *;go_wp2_with (first
      | (refine wpList_load_mid (P:=Tryz.prog) rfl 25 _ rfl g (off+k*5) rfl _ _ HRG.out Tryz.underlying25 rfl sz93 ?_)
      | (go_at_call 126;refine HW.out.mono ?_;rintro o w5 ⟨rfl,hb5⟩))
     go_roundw
     case rel=>exact⟨k+1,by omega,by go_num,HN.out,HB.out.trans (hb5.mono HB.out.size)⟩
     case measure=>simp[intOf];omega
   ·have HN:Hid (bs.all okFr=true):=all_yesG (by have:=HL.out;omega) hdone
    clear hdone;go_wp2
    go_ret;exact⟨_,rfl,by rw[HN.out];simp,hb⟩
theorem containsFrame_any (w:World) (a:Option Addr) (n cap:Nat) (bs:List R5) (h:isR5s w a n cap bs) (hn:n≤1048576) :
  Calls Tryz.prog 125 #[.slice a n cap,.func (.func 126) #[] #[]] w fun o w'=>o = .returned (.bool (!bs.all okFr))∧Below w.heap.size w w':=by
 have HI:Hid (Calls Tryz.prog 169 #[.slice a n cap,.func (.func 126) #[] #[]] w fun o w'=>∃ z:Int,o = .returned (.int .i64 z)∧decide (0≤z) = !bs.all okFr∧Below w.heap.size w w'):=indexFrame_any w a n cap bs h hn
 clear h;go_enter Tryz.func125,Tryz.ntmps125
 go_wp2_with (first | (go_at_call 169;refine HI.out.mono ?_;rintro o w5 ⟨z,rfl,hz,hb5⟩;have HZ:Hid (decide (0≤z) = !bs.all okFr):=hz;clear hz))
 go_ret;exact⟨ret_bool HZ.out,hb5⟩
set_option maxHeartbeats 4000000 in
theorem indexEvent_any (w:World) (a:Option Addr) (n cap:Nat) (bs:List R8) (h:isR8s w a n cap bs) (hn:n≤1048576) :
  Calls Tryz.prog 170 #[.slice a n cap,.func (.func 128) #[] #[]] w fun o w'=>∃ z:Int,o = .returned (.int .i64 z)∧decide (0≤z) = !bs.all okEv∧Below w.heap.size w w':=by
 have hlen:=h.len
 have hcp:=h.cap
 by_cases hl:bs=[]
 ·subst hl;have hn0:n=0:=hlen
  subst hn0;clear hlen h;go_enter Tryz.func170,Tryz.ntmps170
  go_wp2
  go_loopw [8] (fun i wr=>i = .int .i64 0∧wr=w) (fun _ _=>0)
  case atStart=>exact⟨rfl,rfl⟩
  case round=>
   obtain⟨rfl,rfl⟩:=hrel
   go_wp2
   go_ret;exact⟨-1,rfl,rfl,Below.refl _ _⟩
 ·obtain⟨g,off,rfl,hc⟩:=h.cells hl
  have HL:Hid (n=bs.length):=hlen
  have HC:Hid (∀ j (h:j<bs.length),∃ ao m c,at8 w g (off+j*8) bs[j] ao m c):=hc
  clear h hlen hc;go_enter Tryz.func170,Tryz.ntmps170
  go_wp2
  go_loopw [8] (fun i wr=>∃ k:Nat,k≤n∧i = .int .i64 (k:Int)∧(∀ j (hj:j<bs.length),j<k→okEv bs[j]=true)∧Below w.heap.size w wr) (fun i _=>n-(intOf i).toNat)
  case atStart=>exact⟨0,Nat.zero_le _,rfl,fun j hj h=>absurd h (Nat.not_lt_zero _),Below.refl _ _⟩
  case round=>
   obtain⟨k,hk,rfl,hdone,hb⟩:=hrel
   by_cases hlt:k<n
   ·have hkl:k<bs.length:=by have:=HL.out;omega
    obtain⟨ao,m,c,hx⟩:=HC.out k hkl
    have hx':=hx.below hb
    have HRG:Hid (wr.rangeAt g (off+k*8) [.int .i64 bs[k].x,.int .i64 bs[k].y,.int .i64 bs[k].z,.bool bs[k].e,.int .u32 (bs[k].i:Int),.bool bs[k].r,.int .i64 bs[k].d,.slice ao m c]):=hx'.range
    have HW:Hid (Calls Tryz.prog 128 #[bxV bs[k].x bs[k].y bs[k].z bs[k].e bs[k].i bs[k].r bs[k].d ao m c] wr fun o w'=>o = .returned (.bool (!okEv bs[k]))∧Below wr.heap.size wr w'):=wrongEvent_any wr bs[k] ao m c hx'.dat
    have HB:Hid (Below w.heap.size w wr):=hb
    have HD:Hid (∀ j (hj:j<bs.length),j<k→okEv bs[j]=true):=hdone
    clear hx hx' hb hdone;cases hok:okEv bs[k]
    ·have HN:Hid (bs.all okEv=false):=all_noG hkl hok
     rw[hok] at HW
     clear hok;generalize bs[k].x=x0 at *;generalize bs[k].y=y0 at *;generalize bs[k].z=z0 at *;generalize bs[k].e=e0 at *;generalize bs[k].i=i0 at *;generalize bs[k].r=r0 at *;generalize bs[k].d=d0 at *;go_wp2_with (first
      | (refine wpList_load_mid (P:=Tryz.prog) rfl 46 _ rfl g (off+k*8) rfl _ _ HRG.out Tryz.underlying46 rfl sz129 ?_)
      | (go_at_call 128;refine HW.out.mono ?_;rintro o w5 ⟨rfl,hb5⟩))
     go_ret;exact⟨_,rfl,by rw[HN.out];simp,HB.out.trans (hb5.mono HB.out.size)⟩
    ·have HN:Hid (∀ j (hj:j<bs.length),j<k+1→okEv bs[j]=true):=all_snocG hkl HD.out hok
     rw[hok] at HW
     clear hok;generalize bs[k].x=x0 at *;generalize bs[k].y=y0 at *;generalize bs[k].z=z0 at *;generalize bs[k].e=e0 at *;generalize bs[k].i=i0 at *;generalize bs[k].r=r0 at *;generalize bs[k].d=d0 at *;go_wp2_with (first
      | (refine wpList_load_mid (P:=Tryz.prog) rfl 46 _ rfl g (off+k*8) rfl _ _ HRG.out Tryz.underlying46 rfl sz129 ?_)
      | (go_at_call 128;refine HW.out.mono ?_;rintro o w5 ⟨rfl,hb5⟩))
     go_roundw
     case rel=>exact⟨k+1,by omega,by go_num,HN.out,HB.out.trans (hb5.mono HB.out.size)⟩
     case measure=>simp[intOf];omega
   ·have HN:Hid (bs.all okEv=true):=all_yesG (by have:=HL.out;omega) hdone
    clear hdone;go_wp2
    go_ret;exact⟨_,rfl,by rw[HN.out];simp,hb⟩
theorem containsEvent_any (w:World) (a:Option Addr) (n cap:Nat) (bs:List R8) (h:isR8s w a n cap bs) (hn:n≤1048576) :
  Calls Tryz.prog 127 #[.slice a n cap,.func (.func 128) #[] #[]] w fun o w'=>o = .returned (.bool (!bs.all okEv))∧Below w.heap.size w w':=by
 have HI:Hid (Calls Tryz.prog 170 #[.slice a n cap,.func (.func 128) #[] #[]] w fun o w'=>∃ z:Int,o = .returned (.int .i64 z)∧decide (0≤z) = !bs.all okEv∧Below w.heap.size w w'):=indexEvent_any w a n cap bs h hn
 clear h;go_enter Tryz.func127,Tryz.ntmps127
 go_wp2_with (first | (go_at_call 170;refine HI.out.mono ?_;rintro o w5 ⟨z,rfl,hz,hb5⟩;have HZ:Hid (decide (0≤z) = !bs.all okEv):=hz;clear hz))
 go_ret;exact⟨ret_bool HZ.out,hb5⟩
def retB (o:Ending) (P:Prop):Prop:=∃ b:Bool,o = .returned (.bool b)∧(b=true↔P)
def hoL (H:Ho) (s:Sl):List Value:=[.int .i64 H.c0,.int .i64 H.c1,.int .i64 H.c2,.int .i64 H.c3,.slice s.a1 s.n1 s.k1,.slice s.a2 s.n2 s.k2,.slice s.a3 s.n3 s.k3,.slice s.a4 s.n4 s.k4,.int .i64 H.lo,.int .i64 H.st]
theorem hoV_L (H:Ho) (s:Sl):hoV H s = .agg (hoL H s).toArray:=rfl
theorem hoL_len (H:Ho) (s:Sl):(hoL H s).length=10:=rfl
theorem sz41L (H:Ho) (s:Sl):(Tryz.prog.info? 35).map (·.size)=some (hoL H s).length:=sz41
theorem sz41A (H:Ho) (s:Sl):(Tryz.prog.info? 35).map (·.size)=some (hoL H s).toArray.size:=sz41
theorem hoL_one (H:Ho) (s:Sl):(hoL H s).toArray.all (·.oneCell')=true:=all_oneCell_toArray (by simp[hoL,Value.oneCell'])
def zFr (e:Bool) (i:Nat) (r:Bool) (d:Int) (n:Nat):Prop:=e=false∧i=0∧r=false∧d=0∧n=0
set_option maxHeartbeats 2000000 in
theorem l3zeroFrame_any (w:World) (e:Bool) (i:Nat) (r:Bool) (d:Int) (a:Option Addr) (n cap:Nat) :
  Calls Tryz.prog 137 #[frV e i r d a n cap] w fun o w'=>retB o (zFr e i r d n)∧Below w.heap.size w w':=by
 have HB:Hid (Below w.heap.size w (w.alloc (.cells #[.bool e,.int .u32 (i:Int),.bool r,.int .i64 d,.slice a n cap] 25))):=(Below.refl _ _).alloc (Nat.le_refl _) _
 cases e
 ·by_cases hi:i=0
  ·subst hi;cases r
   ·by_cases hd:d=0
    ·subst hd;go_enter Tryz.func137,Tryz.ntmps137
     go_wp2
     go_ret;refine⟨⟨_,rfl,?_⟩,HB.out⟩
     unfold zFr
     simp
     try omega
    ·have hd':(d == 0)=false:=by simpa using hd
     clear hd;go_enter Tryz.func137,Tryz.ntmps137
     go_wp2
     go_ret;refine⟨⟨_,rfl,?_⟩,HB.out⟩
     unfold zFr
     simp at hd'
     simp[hd']
   ·go_enter Tryz.func137,Tryz.ntmps137
    go_wp2
    go_ret;refine⟨⟨_,rfl,?_⟩,HB.out⟩
    unfold zFr
    simp
  ·have hi':((i:Int) == 0)=false:=by simpa using hi
   clear hi;go_enter Tryz.func137,Tryz.ntmps137
   go_wp2
   go_ret;refine⟨⟨_,rfl,?_⟩,HB.out⟩
   unfold zFr
   simp at hi'
   simp[hi']
 ·go_enter Tryz.func137,Tryz.ntmps137
  go_wp2
  go_ret;refine⟨⟨_,rfl,?_⟩,HB.out⟩
  unfold zFr
  simp
end Go.Proofs.YtaamahohdnbpiaaGreat
