import Derived.Test.YtkfcfigbgmbaiaaGreatK02
import Derived.Test.YtkfcfigbgmbaiaaGreatK06
import Derived.Deep.RegionHeld3
namespace Go.Proofs.YtkfcfigbgmbaiaaGreat
set_option maxRecDepth 20000
open Go.RowKit
set_option linter.unusedVariables false
set_option maxHeartbeats 16000000
open Go.Value renaming int→I,slice→sL,bool→bO,pointer→pT,agg→aG
open Go.IntKind renaming i64→J
open Go.Ending renaming returned→rT
open Go.Proofs.Tryz renaming prog→Tp
variable {k:Nat}
def okFr (b:R5):Bool:=vB b.e b.i b.r b.d b.l.length
def okEv (b:R8):Bool:=decide ((1≤b.x∧b.x≤12)∧(0≤b.y∧b.y≤9999)∧(0≤b.z∧b.z≤9)) && vB b.e b.i b.r b.d b.l.length
theorem wrongFrame_any (w:World) (b:R5) (a:Option Addr) (n cap:Nat) (h:iB w a n cap b.l) :
  Calls Tp 173 #[frV b.e b.i b.r b.d a n cap] w fun o w'=>o = rT (bO (!okFr b))∧Below w.heap.size w w':=by
 have hlen:=h.len
 have HV:Hid (∀ W,Below w.heap.size w W→Calls Tp 112 #[frV b.e b.i b.r b.d a n cap] W fun o w'=>o = rT (bO (okFr b))∧Below W.heap.size W w'):=fun W hW=>by
  have:=valid_any W b.e b.i b.r b.d a n cap b.l (h.below hW)
  rw[hlen] at this
  unfold okFr
  rw[hlen]
  exact this
 clear h hlen;generalize okFr b=R at *;obtain⟨e,i,r,d,l⟩:=b
 go_enter Tryz.func173,Tryz.ntmps173
 go_wp2_with fail;refine (HV.out _ ((bW _ _).alloc (nR _) _)).mono ?_
 rintro o w1 ⟨rfl,hb1⟩;have HB:Hid (Below w.heap.size w w1):=((bW _ _).alloc (nR _) _).trans (hb1.mono (by simp))
 clear hb1;cases R
 ·go_wp2_with fail;go_ret;exact⟨rfl,HB.out⟩
 ·go_wp2_with fail;go_ret;exact⟨rfl,HB.out⟩
theorem wrongEvent_any (w:World) (b:R8) (a:Option Addr) (n cap:Nat) (h:iB w a n cap b.l) :
  Calls Tp 175 #[bxV b.x b.y b.z b.e b.i b.r b.d a n cap] w fun o w'=>o = rT (bO (!okEv b))∧Below w.heap.size w w':=by
 have HV:Hid (∀ W,Below w.heap.size w W→Calls Tp 173 #[frV b.e b.i b.r b.d a n cap] W fun o w'=>o = rT (bO (!vB b.e b.i b.r b.d b.l.length))∧Below W.heap.size W w'):=fun W hW=>wrongFrame_any W ⟨b.e,b.i,b.r,b.d,b.l⟩ a n cap (h.below hW)
 clear h;have HO:Hid (okEv b=(decide ((1≤b.x∧b.x≤12)∧(0≤b.y∧b.y≤9999)∧(0≤b.z∧b.z≤9)) && vB b.e b.i b.r b.d b.l.length)):=rfl
 generalize okEv b=Q at *;generalize vB b.e b.i b.r b.d b.l.length=R at *;obtain⟨x,y,z,e,i,r,d,l⟩:=b
 simp only[] at HV HO ⊢
 have HA:Hid (Below w.heap.size w (w.alloc (.cells #[I J x,I J y,I J z,bO e,I .u32 (i:Int),bO r,I J d,sL a n cap] 67))):=(bW _ _).alloc (nR _) _
 have hx:decide (1≤x∧x≤12)=true∨decide (1≤x∧x≤12)=false:=by cases decide (1≤x∧x≤12) <;> simp
 have hy:decide (0≤y∧y≤9999)=true∨decide (0≤y∧y≤9999)=false:=by cases decide (0≤y∧y≤9999) <;> simp
 have hz:decide (0≤z∧z≤9)=true∨decide (0≤z∧z≤9)=false:=by cases decide (0≤z∧z≤9) <;> simp
 have HIR:Hid (∀ (W:World) (v l m:Int) (bb:Bool),decide (l≤v∧v≤m)=bb→Calls Tp 43 #[I J v,I J l,I J m] W fun o w'=>o = rT (bO bb)∧W=w'):=fun W v l m bb hbb=>hbb ▸ inRange_any W v l m
 rcases hx with hx|hx
 ·rcases hy with hy|hy
  ·rcases hz with hz|hz
   ·have HQ:Hid (Q=R):=by
     have:=HO.out
     simp only[decide_eq_true_eq] at hx hy hz
     rw[this,decide_eq_true ⟨hx,hy,hz⟩];rfl
    have I1:=fun W=>HIR.out W x 1 12 true hx
    have I2:=fun W=>HIR.out W y 0 9999 true hy
    have I3:=fun W=>HIR.out W z 0 9 true hz
    have J1:Hid (∀ W,Calls Tp 43 #[I J x,I J 1,I J 12] W fun o w'=>o = rT (bO true)∧W=w'):=I1
    have J2:Hid (∀ W,Calls Tp 43 #[I J y,I J 0,I J 9999] W fun o w'=>o = rT (bO true)∧W=w'):=I2
    have J3:Hid (∀ W,Calls Tp 43 #[I J z,I J 0,I J 9] W fun o w'=>o = rT (bO true)∧W=w'):=I3
    clear I1 I2 I3 hx hy hz HIR HO;go_enter Tryz.func175,Tryz.ntmps175
    go_wp2_with (first
     | (go_at_call 43;first | (refine (J1.out _).mono ?_;rintro o w1 ⟨rfl,rfl⟩;clear J1) | (refine (J2.out _).mono ?_;rintro o w1 ⟨rfl,rfl⟩;clear J2) | (refine (J3.out _).mono ?_;rintro o w1 ⟨rfl,rfl⟩;clear J3))
     | (go_at_call 173;refine (HV.out _ HA.out).mono ?_;rintro o w1 ⟨rfl,hb1⟩))
    go_ret;exact⟨ret_bool (by rw[HQ.out]),HA.out.trans (hb1.mono HA.out.size)⟩
   ·have HQ:Hid (Q=false):=by
     have:=HO.out
     simp only[decide_eq_false_iff_not] at hz
     rw[this,decide_eq_false (fun h=>hz h.2.2)];rfl
    have J1:Hid (∀ W,Calls Tp 43 #[I J x,I J 1,I J 12] W fun o w'=>o = rT (bO true)∧W=w'):=fun W=>HIR.out W x 1 12 true hx
    have J2:Hid (∀ W,Calls Tp 43 #[I J y,I J 0,I J 9999] W fun o w'=>o = rT (bO true)∧W=w'):=fun W=>HIR.out W y 0 9999 true hy
    have J3:Hid (∀ W,Calls Tp 43 #[I J z,I J 0,I J 9] W fun o w'=>o = rT (bO false)∧W=w'):=fun W=>HIR.out W z 0 9 false hz
    clear hx hy hz HIR HO HV;go_enter Tryz.func175,Tryz.ntmps175
    go_wp2_with (first
     | (go_at_call 43;first | (refine (J1.out _).mono ?_;rintro o w1 ⟨rfl,rfl⟩;clear J1) | (refine (J2.out _).mono ?_;rintro o w1 ⟨rfl,rfl⟩;clear J2) | (refine (J3.out _).mono ?_;rintro o w1 ⟨rfl,rfl⟩;clear J3)))
    go_ret;exact⟨ret_bool (by rw[HQ.out];rfl),HA.out⟩
  ·have HQ:Hid (Q=false):=by
    have:=HO.out
    simp only[decide_eq_false_iff_not] at hy
    rw[this,decide_eq_false (fun h=>hy h.2.1)];rfl
   have J1:Hid (∀ W,Calls Tp 43 #[I J x,I J 1,I J 12] W fun o w'=>o = rT (bO true)∧W=w'):=fun W=>HIR.out W x 1 12 true hx
   have J2:Hid (∀ W,Calls Tp 43 #[I J y,I J 0,I J 9999] W fun o w'=>o = rT (bO false)∧W=w'):=fun W=>HIR.out W y 0 9999 false hy
   clear hx hy hz HIR HO HV;go_enter Tryz.func175,Tryz.ntmps175
   go_wp2_with (first
    | (go_at_call 43;first | (refine (J1.out _).mono ?_;rintro o w1 ⟨rfl,rfl⟩;clear J1) | (refine (J2.out _).mono ?_;rintro o w1 ⟨rfl,rfl⟩;clear J2)))
   go_ret;exact⟨ret_bool (by rw[HQ.out];rfl),HA.out⟩
 ·have HQ:Hid (Q=false):=by
   have:=HO.out
   simp only[decide_eq_false_iff_not] at hx
   rw[this,decide_eq_false (fun h=>hx h.1)];rfl
  have J1:Hid (∀ W,Calls Tp 43 #[I J x,I J 1,I J 12] W fun o w'=>o = rT (bO false)∧W=w'):=fun W=>HIR.out W x 1 12 false hx
  clear hx hy hz HIR HO HV;go_enter Tryz.func175,Tryz.ntmps175
  go_wp2_with (first
   | (go_at_call 43;refine (J1.out _).mono ?_;rintro o w1 ⟨rfl,rfl⟩))
  go_ret;exact⟨ret_bool (by rw[HQ.out];rfl),HA.out⟩
theorem all_snocG {α:Type} {p:α→Bool} {bs:List α} (hk:k<bs.length) (h:∀ j (hj:j<bs.length),j<k→p bs[j]=true) (h1:p bs[k]=true):∀ j (hj:j<bs.length),j<k+1→p bs[j]=true:=by
 intro j hj h2;by_cases e:j=k
 ·subst e;exact h1
 ·exact h j hj (by omega)
theorem all_yesG {α:Type} {p:α→Bool} {bs:List α} (hk:bs.length≤k) (h:∀ j (hj:j<bs.length),j<k→p bs[j]=true):bs.all p=true:=by
 rw[List.all_eq_true]
 intro x hx;obtain⟨j,hj,rfl⟩:=List.getElem_of_mem hx
 exact h j hj (by omega)
theorem all_noG {α:Type} {p:α→Bool} {bs:List α} (hk:k<bs.length) (h1:p bs[k]=false):bs.all p=false:=by
 rw[List.all_eq_false]
 exact⟨bs[k],List.getElem_mem hk,by rw[h1];simp⟩
theorem indexFrame_any (w:World) (a:Option Addr) (n cap:Nat) (bs:List R5) (h:isR5s w a n cap bs) (hn:n≤1048576) :
  Calls Tp 210 #[sL a n cap,.func (.func 173) #[] #[]] w fun o w'=>∃ z:Int,o = rT (I J z)∧decide (0≤z) = !bs.all okFr∧Below w.heap.size w w':=by
 have hlen:=h.len
 have hcp:=h.cap
 by_cases hl:bs=[]
 ·subst hl;have hn0:n=0:=hlen
  subst hn0;clear hlen h;go_enter Tryz.func210,Tryz.ntmps210
  go_wp2
  go_loopw [8] (fun i wr=>i = I J 0∧wr=w) (fun _ _=>0)
  case atStart=>exact⟨rfl,rfl⟩
  case round=>
   obtain⟨rfl,rfl⟩:=hrel
   go_wp2
   go_ret;exact⟨-1,rfl,rfl,bW _ _⟩
 ·obtain⟨g,off,rfl,hc⟩:=h.cells hl
  have HL:Hid (n=bs.length):=hlen
  have HC:Hid (∀ j (h:j<bs.length),∃ ao m c,at5 w g (off+j*5) bs[j] ao m c):=hc
  clear h hlen hc;go_enter Tryz.func210,Tryz.ntmps210
  go_wp2
  go_loopw [8] (fun i wr=>∃ k:Nat,k≤n∧i = I J (k:Int)∧(∀ j (hj:j<bs.length),j<k→okFr bs[j]=true)∧Below w.heap.size w wr) (fun i _=>n-(intOf i).toNat)
  case atStart=>exact⟨0,nZ _,rfl,fun j hj h=>absurd h (nN _),bW _ _⟩
  case round=>
   obtain⟨k,hk,rfl,hdone,hb⟩:=hrel
   by_cases hlt:k<n
   ·have hkl:k<bs.length:=by have:=HL.out;omega
    obtain⟨ao,m,c,hx⟩:=HC.out k hkl
    have hx':=hx.below hb
    have HRG:Hid (wr.rangeAt g (off+k*5) [bO bs[k].e,I .u32 (bs[k].i:Int),bO bs[k].r,I J bs[k].d,sL ao m c]):=hx'.range
    have HW:Hid (Calls Tp 173 #[frV bs[k].e bs[k].i bs[k].r bs[k].d ao m c] wr fun o w'=>o = rT (bO (!okFr bs[k]))∧Below wr.heap.size wr w'):=wrongFrame_any wr bs[k] ao m c hx'.dat
    have HB:Hid (Below w.heap.size w wr):=hb
    have HD:Hid (∀ j (hj:j<bs.length),j<k→okFr bs[j]=true):=hdone
    clear hx hx' hb hdone;cases hok:okFr bs[k]
    ·have HN:Hid (bs.all okFr=false):=all_noG hkl hok
     rw[hok] at HW
     clear hok;generalize bs[k].e=e0 at *;generalize bs[k].i=i0 at *;generalize bs[k].r=r0 at *;generalize bs[k].d=d0 at *;go_wp2_with (first
      | (refine lq55 HRG.out ?_)
      | (go_at_call 173;refine HW.out.mono ?_;rintro o w5 ⟨rfl,hb5⟩))
     go_ret;exact⟨_,rfl,by rw[HN.out];simp,HB.out.trans (hb5.mono HB.out.size)⟩
    ·have HN:Hid (∀ j (hj:j<bs.length),j<k+1→okFr bs[j]=true):=all_snocG hkl HD.out hok
     rw[hok] at HW
     clear hok;generalize bs[k].e=e0 at *;generalize bs[k].i=i0 at *;generalize bs[k].r=r0 at *;generalize bs[k].d=d0 at *;go_wp2_with (first
      | (refine lq55 HRG.out ?_)
      | (go_at_call 173;refine HW.out.mono ?_;rintro o w5 ⟨rfl,hb5⟩))
     go_roundw
     case rel=>exact⟨k+1,by omega,by go_num,HN.out,HB.out.trans (hb5.mono HB.out.size)⟩
     case measure=>simp[intOf];omega
   ·have HN:Hid (bs.all okFr=true):=all_yesG (by have:=HL.out;omega) hdone
    clear hdone;go_wp2
    go_ret;exact⟨_,rfl,by rw[HN.out];simp,hb⟩
theorem containsFrame_any (w:World) (a:Option Addr) (n cap:Nat) (bs:List R5) (h:isR5s w a n cap bs) (hn:n≤1048576) :
  Calls Tp 172 #[sL a n cap,.func (.func 173) #[] #[]] w fun o w'=>o = rT (bO (!bs.all okFr))∧Below w.heap.size w w':=by
 have HI:Hid (Calls Tp 210 #[sL a n cap,.func (.func 173) #[] #[]] w fun o w'=>∃ z:Int,o = rT (I J z)∧decide (0≤z) = !bs.all okFr∧Below w.heap.size w w'):=indexFrame_any w a n cap bs h hn
 clear h;go_enter Tryz.func172,Tryz.ntmps172
 go_wp2_with (first | (go_at_call 210;refine HI.out.mono ?_;rintro o w5 ⟨z,rfl,hz,hb5⟩;have HZ:Hid (decide (0≤z) = !bs.all okFr):=hz;clear hz))
 go_ret;exact⟨ret_bool HZ.out,hb5⟩
theorem indexEvent_any (w:World) (a:Option Addr) (n cap:Nat) (bs:List R8) (h:isR8s w a n cap bs) (hn:n≤1048576) :
  Calls Tp 211 #[sL a n cap,.func (.func 175) #[] #[]] w fun o w'=>∃ z:Int,o = rT (I J z)∧decide (0≤z) = !bs.all okEv∧Below w.heap.size w w':=by
 have hlen:=h.len
 have hcp:=h.cap
 by_cases hl:bs=[]
 ·subst hl;have hn0:n=0:=hlen
  subst hn0;clear hlen h;go_enter Tryz.func211,Tryz.ntmps211
  go_wp2
  go_loopw [8] (fun i wr=>i = I J 0∧wr=w) (fun _ _=>0)
  case atStart=>exact⟨rfl,rfl⟩
  case round=>
   obtain⟨rfl,rfl⟩:=hrel
   go_wp2
   go_ret;exact⟨-1,rfl,rfl,bW _ _⟩
 ·obtain⟨g,off,rfl,hc⟩:=h.cells hl
  have HL:Hid (n=bs.length):=hlen
  have HC:Hid (∀ j (h:j<bs.length),∃ ao m c,at8 w g (off+j*8) bs[j] ao m c):=hc
  clear h hlen hc;go_enter Tryz.func211,Tryz.ntmps211
  go_wp2
  go_loopw [8] (fun i wr=>∃ k:Nat,k≤n∧i = I J (k:Int)∧(∀ j (hj:j<bs.length),j<k→okEv bs[j]=true)∧Below w.heap.size w wr) (fun i _=>n-(intOf i).toNat)
  case atStart=>exact⟨0,nZ _,rfl,fun j hj h=>absurd h (nN _),bW _ _⟩
  case round=>
   obtain⟨k,hk,rfl,hdone,hb⟩:=hrel
   by_cases hlt:k<n
   ·have hkl:k<bs.length:=by have:=HL.out;omega
    obtain⟨ao,m,c,hx⟩:=HC.out k hkl
    have hx':=hx.below hb
    have HRG:Hid (wr.rangeAt g (off+k*8) [I J bs[k].x,I J bs[k].y,I J bs[k].z,bO bs[k].e,I .u32 (bs[k].i:Int),bO bs[k].r,I J bs[k].d,sL ao m c]):=hx'.range
    have HW:Hid (Calls Tp 175 #[bxV bs[k].x bs[k].y bs[k].z bs[k].e bs[k].i bs[k].r bs[k].d ao m c] wr fun o w'=>o = rT (bO (!okEv bs[k]))∧Below wr.heap.size wr w'):=wrongEvent_any wr bs[k] ao m c hx'.dat
    have HB:Hid (Below w.heap.size w wr):=hb
    have HD:Hid (∀ j (hj:j<bs.length),j<k→okEv bs[j]=true):=hdone
    clear hx hx' hb hdone;cases hok:okEv bs[k]
    ·have HN:Hid (bs.all okEv=false):=all_noG hkl hok
     rw[hok] at HW
     clear hok;generalize bs[k].x=x0 at *;generalize bs[k].y=y0 at *;generalize bs[k].z=z0 at *;generalize bs[k].e=e0 at *;generalize bs[k].i=i0 at *;generalize bs[k].r=r0 at *;generalize bs[k].d=d0 at *;go_wp2_with (first
      | (refine lq67 HRG.out ?_)
      | (go_at_call 175;refine HW.out.mono ?_;rintro o w5 ⟨rfl,hb5⟩))
     go_ret;exact⟨_,rfl,by rw[HN.out];simp,HB.out.trans (hb5.mono HB.out.size)⟩
    ·have HN:Hid (∀ j (hj:j<bs.length),j<k+1→okEv bs[j]=true):=all_snocG hkl HD.out hok
     rw[hok] at HW
     clear hok;generalize bs[k].x=x0 at *;generalize bs[k].y=y0 at *;generalize bs[k].z=z0 at *;generalize bs[k].e=e0 at *;generalize bs[k].i=i0 at *;generalize bs[k].r=r0 at *;generalize bs[k].d=d0 at *;go_wp2_with (first
      | (refine lq67 HRG.out ?_)
      | (go_at_call 175;refine HW.out.mono ?_;rintro o w5 ⟨rfl,hb5⟩))
     go_roundw
     case rel=>exact⟨k+1,by omega,by go_num,HN.out,HB.out.trans (hb5.mono HB.out.size)⟩
     case measure=>simp[intOf];omega
   ·have HN:Hid (bs.all okEv=true):=all_yesG (by have:=HL.out;omega) hdone
    clear hdone;go_wp2
    go_ret;exact⟨_,rfl,by rw[HN.out];simp,hb⟩
theorem containsEvent_any (w:World) (a:Option Addr) (n cap:Nat) (bs:List R8) (h:isR8s w a n cap bs) (hn:n≤1048576) :
  Calls Tp 174 #[sL a n cap,.func (.func 175) #[] #[]] w fun o w'=>o = rT (bO (!bs.all okEv))∧Below w.heap.size w w':=by
 have HI:Hid (Calls Tp 211 #[sL a n cap,.func (.func 175) #[] #[]] w fun o w'=>∃ z:Int,o = rT (I J z)∧decide (0≤z) = !bs.all okEv∧Below w.heap.size w w'):=indexEvent_any w a n cap bs h hn
 clear h;go_enter Tryz.func174,Tryz.ntmps174
 go_wp2_with (first | (go_at_call 211;refine HI.out.mono ?_;rintro o w5 ⟨z,rfl,hz,hb5⟩;have HZ:Hid (decide (0≤z) = !bs.all okEv):=hz;clear hz))
 go_ret;exact⟨ret_bool HZ.out,hb5⟩
def retB (o:Ending) (P:Prop):Prop:=∃ b:Bool,o = rT (bO b)∧(b=true↔P)
def hoL (H:Ho) (s:Sl):List Value:=[I J H.c0,I J H.c1,I J H.c2,I J H.c3,sL s.a1 s.n1 s.k1,sL s.a2 s.n2 s.k2,sL s.a3 s.n3 s.k3,sL s.a4 s.n4 s.k4,I J H.lo,I J H.st]
theorem hoV_L (H:Ho) (s:Sl):hoV H s = aG (hoL H s).toArray:=rfl
theorem hoL_len (H:Ho) (s:Sl):(hoL H s).length=10:=rfl
theorem sz41L (H:Ho) (s:Sl):(Tp.info? 39).map (·.size)=some (hoL H s).length:=sz41
theorem sz41A (H:Ho) (s:Sl):(Tp.info? 39).map (·.size)=some (hoL H s).toArray.size:=sz41
theorem hoL_one (H:Ho) (s:Sl):(hoL H s).toArray.all (·.oneCell')=true:=all_oneCell_toArray (by simp[hoL,Value.oneCell'])
def zFr (e:Bool) (i:Nat) (r:Bool) (d:Int) (n:Nat):Prop:=e=false∧i=0∧r=false∧d=0∧n=0
theorem l3zeroFrame_any (w:World) (e:Bool) (i:Nat) (r:Bool) (d:Int) (a:Option Addr) (n cap:Nat) :
  Calls Tp 129 #[frV e i r d a n cap] w fun o w'=>retB o (zFr e i r d n)∧Below w.heap.size w w':=by
 have HB:Hid (Below w.heap.size w (w.alloc (.cells #[bO e,I .u32 (i:Int),bO r,I J d,sL a n cap] 55))):=(bW _ _).alloc (nR _) _
 cases e
 ·by_cases hi:i=0
  ·subst hi;cases r
   ·by_cases hd:d=0
    ·subst hd;go_enter Tryz.func129,Tryz.ntmps129
     go_wp2
     go_ret;refine⟨⟨_,rfl,?_⟩,HB.out⟩
     unfold zFr
     simp
     try omega
    ·have hd':(d == 0)=false:=by simpa using hd
     clear hd;go_enter Tryz.func129,Tryz.ntmps129
     go_wp2
     go_ret;refine⟨⟨_,rfl,?_⟩,HB.out⟩
     unfold zFr
     simp at hd'
     simp[hd']
   ·go_enter Tryz.func129,Tryz.ntmps129
    go_wp2
    go_ret;refine⟨⟨_,rfl,?_⟩,HB.out⟩
    unfold zFr
    simp
  ·have hi':((i:Int) == 0)=false:=by simpa using hi
   clear hi;go_enter Tryz.func129,Tryz.ntmps129
   go_wp2
   go_ret;refine⟨⟨_,rfl,?_⟩,HB.out⟩
   unfold zFr
   simp at hi'
   simp[hi']
 ·go_enter Tryz.func129,Tryz.ntmps129
  go_wp2
  go_ret;refine⟨⟨_,rfl,?_⟩,HB.out⟩
  unfold zFr
  simp
theorem lq39 {ops:Array Oper} {rest:List Oper} {op:Oper} {a:Act} {w:World} {Q:Exit→Act→World→Prop} {b o:Nat} {x:Operand} {cs:List Value} (hc:w.rangeAt b o cs) (h:wpList Tryz.prog ops Q rest (a.put op.dst (.agg cs.toArray)) w) (hgd:op.guard=none:=by rfl) (ho:op.op = .load 39 x:=by rfl) (hx:a.eval x = .pointer (some ⟨b,o,none⟩):=by rfl) (hn:cs.length=10:=by first | exact hoL_len _ _ | rfl):wpList Tryz.prog ops Q (op :: rest) a w:=wpList_load_mid hgd 39 x ho b o hx cs _ hc Tryz.underlying39 rfl (by rw[hn];exact sz41) h
theorem sq39 {ops:Array Oper} {rest:List Oper} {op:Oper} {a:Act} {w:World} {Q:Exit→Act→World→Prop} {b:Nat} {x y:Operand} {L cs:List Value} (hb:blk w b L 39) (h:wpList Tryz.prog ops Q rest (a.put op.dst undef) (w.setCells b 0 cs)) (hgd:op.guard=none:=by rfl) (ho:op.op = .store 39 x y:=by rfl) (hx:a.eval x = .pointer (some ⟨b,0,none⟩):=by rfl) (hy:a.eval y = .agg cs.toArray:=by rfl) (hn:cs.length=10:=by first | exact hoL_len _ _ | rfl) (hl:L.length=10:=by first | exact hoL_len _ _ | rfl) (h1:cs.toArray.all (·.oneCell')=true:=by first | exact hoL_one _ _ | kernel_rfl):wpList Tryz.prog ops Q (op :: rest) a w:=wpList_store_mid hgd 39 x y ho b 0 cs.toArray hx hy (hb.there 0 _ (by rw[List.size_toArray,hn,hl];decide)) (by rw[List.size_toArray,hn];exact sz41) h1 h
theorem rq39 {w:World} {b:Nat} {cs:List Value} (h:blk w b cs 39) (hn:cs.length=10:=by first | exact hoL_len _ _ | rfl):(loadVar 39 ⟨b,0,none⟩).run Tryz.prog w = .ok (.agg cs.toArray) w:=run_loadVar_mid (P:=Tryz.prog) w b 0 39 _ _ h.load Tryz.underlying39 rfl (by rw[hn];exact sz41)
variable {w:World} {b:Nat} {s:Sl}
structure Co where
 p:Int
 ct:Int
 lv:Int
 wk:Bool
 ov:Bool
 ow:Bool
 tx:Bool
 ak:Bool
 rn:Int
 te:Int
 re:Int
 ho:Ho
abbrev coV (C:Co) (s:Sl):Value:=aG #[I J C.p,I J C.ct,I J C.lv,bO C.wk,bO C.ov,bO C.ow,bO C.tx,bO C.ak,I J C.rn,I J C.te,I J C.re,I J C.ho.c0,I J C.ho.c1,I J C.ho.c2,I J C.ho.c3,sL s.a1 s.n1 s.k1,sL s.a2 s.n2 s.k2,sL s.a3 s.n3 s.k3,sL s.a4 s.n4 s.k4,I J C.ho.lo,I J C.ho.st]
def coL (C:Co) (s:Sl):List Value:=[I J C.p,I J C.ct,I J C.lv,bO C.wk,bO C.ov,bO C.ow,bO C.tx,bO C.ak,I J C.rn,I J C.te,I J C.re,I J C.ho.c0,I J C.ho.c1,I J C.ho.c2,I J C.ho.c3,sL s.a1 s.n1 s.k1,sL s.a2 s.n2 s.k2,sL s.a3 s.n3 s.k3,sL s.a4 s.n4 s.k4,I J C.ho.lo,I J C.ho.st]
def coM (C:Co):List Value:=[I J C.p,I J C.ct,I J C.lv,bO C.wk,bO C.ov,bO C.ow,bO C.tx,bO C.ak,I J C.rn,I J C.te,I J C.re]
theorem cL (C:Co) (s:Sl):(coL C s).length=21:=rfl
theorem coL_M (C:Co) (s:Sl):coL C s=coM C++hoL C.ho s:=rfl
theorem cO (C:Co) (s:Sl):(coL C s).toArray.all (·.oneCell')=true:=all_oneCell_toArray (by simp[coL,Value.oneCell'])
theorem szC41:(Tp.info? 41).map (·.size)=some 21:=by kernel_rfl
theorem szC41L (C:Co) (s:Sl):(Tp.info? 41).map (·.size)=some (coL C s).length:=szC41
theorem szC41A (C:Co) (s:Sl):(Tp.info? 41).map (·.size)=some (coL C s).toArray.size:=szC41
def Z21:List Value:=[I J 0,I J 0,I J 0,bO false,bO false,bO false,bO false,bO false,I J 0,I J 0,I J 0,I J 0,I J 0,I J 0,I J 0,sL none 0 0,sL none 0 0,sL none 0 0,sL none 0 0,I J 0,I J 0]
theorem blk.hostAt {C:Co} {T:TypeId} (h:blk w b (coL C s) T):w.rangeAt b 11 (hoL C.ho s):=by
 have h':blk w b (coM C++hoL C.ho s++[]) T:=by rw[List.append_nil,← coL_M];exact h
 exact h'.loadAt (coM C) (hoL C.ho s) []
theorem sz39h (H:Ho) (s:Sl):(Tp.info? 39).map (·.size)=some (hoL H s).length:=by kernel_rfl
structure ctS (w:World) (b:Nat) (C:Co) (s:Sl) (W:World):Prop where
 p:blk W b (coL C s) 41
 b:Below w.heap.size w W
theorem ctS.below {C:Co} {W W':World} (h:ctS w b C s W) (hb:Below W.heap.size W W'):ctS w b C s W':=⟨h.p.below hb,h.b.trans (hb.mono h.b.size)⟩
theorem ctS.new (w:World) (C:Co) (s:Sl):ctS w w.heap.size C s (w.alloc (.cells (coL C s).toArray 41)):=⟨blk.new w _ 41,(bW _ _).alloc (nR _) _⟩
theorem lq41 {ops:Array Oper} {rest:List Oper} {op:Oper} {a:Act} {w:World} {Q:Exit→Act→World→Prop} {b o:Nat} {x:Operand} {cs:List Value} (hc:w.rangeAt b o cs) (h:wpList Tryz.prog ops Q rest (a.put op.dst (.agg cs.toArray)) w) (hgd:op.guard=none:=by rfl) (ho:op.op = .load 41 x:=by rfl) (hx:a.eval x = .pointer (some ⟨b,o,none⟩):=by rfl) (hn:cs.length=21:=by first | exact cL _ _ | rfl):wpList Tryz.prog ops Q (op :: rest) a w:=wpList_load_mid hgd 41 x ho b o hx cs _ hc Tryz.underlying41 rfl (by rw[hn];exact szC41) h
theorem sq41 {ops:Array Oper} {rest:List Oper} {op:Oper} {a:Act} {w:World} {Q:Exit→Act→World→Prop} {b:Nat} {x y:Operand} {L cs:List Value} (hb:blk w b L 41) (h:wpList Tryz.prog ops Q rest (a.put op.dst undef) (w.setCells b 0 cs)) (hgd:op.guard=none:=by rfl) (ho:op.op = .store 41 x y:=by rfl) (hx:a.eval x = .pointer (some ⟨b,0,none⟩):=by rfl) (hy:a.eval y = .agg cs.toArray:=by rfl) (hn:cs.length=21:=by first | exact cL _ _ | rfl) (hl:L.length=21:=by first | exact cL _ _ | rfl) (h1:cs.toArray.all (·.oneCell')=true:=by first | exact cO _ _ | kernel_rfl):wpList Tryz.prog ops Q (op :: rest) a w:=wpList_store_mid hgd 41 x y ho b 0 cs.toArray hx hy (hb.there 0 _ (by rw[List.size_toArray,hn,hl];decide)) (by rw[List.size_toArray,hn];exact szC41) h1 h
theorem rq41 {w:World} {b:Nat} {cs:List Value} (h:blk w b cs 41) (hn:cs.length=21:=by first | exact cL _ _ | rfl):(loadVar 41 ⟨b,0,none⟩).run Tryz.prog w = .ok (.agg cs.toArray) w:=run_loadVar_mid (P:=Tryz.prog) w b 0 41 _ _ h.load Tryz.underlying41 rfl (by rw[hn];exact szC41)
def sgL:List Value:=[I J 0,I J 0,bO false,bO false,I J 0,bO false,I .u32 0,bO false,I J 0,sL none 0 0]
def mcH (P:Nat) (C:Co):List Value:=[pT (some ⟨P,0,none⟩),I J C.te,I J C.re,I J C.p,I J C.ct,I J C.lv,bO C.wk,bO C.ov,bO C.ow,bO C.tx,bO C.ak,I J C.rn]
def mcL (P:Nat) (C:Co):List Value:=mcH P C++(sgL++prL)
theorem mcL_len (P:Nat) (C:Co):(mcL P C).length=46:=rfl
theorem openCore_gen {R:Nat→World→Prop} (hR:∀ P W W',R P W→Below W.heap.size W W'→R P W') (w:World) (C:Co) (s:Sl) (ho:∀ W,Below w.heap.size w W→Calls Tp 123 #[aG (hoL C.ho s).toArray] W fun o w'=>∃ P,o = rT (pT (some ⟨P,0,none⟩))∧R P w'∧Below W.heap.size W w') :
  Calls Tp 84 #[aG (coL C s).toArray] w fun o w'=>∃ P w5,o = rT (pT (some ⟨w5.heap.size,0,none⟩))∧w'=w5.alloc (.cells (mcL P C).toArray 125)∧R P w5∧Below w.heap.size w w5:=by
 have HO:Hid (∀ W,Below w.heap.size w W→Calls Tp 123 #[aG (hoL C.ho s).toArray] W fun o w'=>∃ P,o = rT (pT (some ⟨P,0,none⟩))∧R P w'∧Below W.heap.size W w'):=ho
 have HR:Hid (∀ P W W',R P W→Below W.heap.size W W'→R P W'):=hR
 have HP:Hid (∀ W,Calls Tp 144 #[] W fun o w'=>o = rT (aG prL.toArray)∧Below W.heap.size W w'):=fun W=>phaseRows_any W
 have H0:Hid (ctS w w.heap.size C s (w.alloc (.cells (coL C s).toArray 41))):=ctS.new w C s
 clear ho hR;go_enter Tryz.func84,Tryz.ntmps84
 go_wp2_with fail;refine wp_region_held (S:=fun X=>ctS w w.heap.size C s X) (by kernel_rfl) ?_
 have hS:ctS w w.heap.size C s (World.drew (w.alloc (.cells (coL C s).toArray 41))):=H0.out.below (bW _ _).drew
 clear H0;change wpAnyH Tp _ _ _ _ _ _ _ (World.drew (w.alloc (.cells (coL C s).toArray 41)))
 generalize World.drew (w.alloc (.cells (coL C s).toArray 41))=v0 at *;refine tk 0 ?_
 refine wU 1 (aG (hoL C.ho s).toArray) rfl (yieldsIf_load_mid (by rfl) 39 (.tmp 3) rfl w.heap.size 11 rfl (hoL C.ho s) _ (fun X h=>h.p.hostAt) Tryz.underlying39 rfl (sz39h C.ho s)) hS ?_
 simp only[aZ];refine tk 3 ?_
 refine tk 4 ?_ (hy:=fun W hSw=>by (have y:=hSw.p.cell 9 (I J C.te) rfl;go_simp;try rfl))
 refine tk 5 ?_
 refine tk 6 ?_ (hy:=fun W hSw=>by (have y:=hSw.p.cell 10 (I J C.re) rfl;go_simp;try rfl))
 refine tk 8 ?_
 refine tk 9 ?_ (hy:=fun W hSw=>by (have y:=hSw.p.cell 0 (I J C.p) rfl;go_simp;try rfl))
 refine tk 10 ?_
 refine tk 11 ?_ (hy:=fun W hSw=>by (have y:=hSw.p.cell 1 (I J C.ct) rfl;go_simp;try rfl))
 refine tk 12 ?_
 refine tk 13 ?_ (hy:=fun W hSw=>by (have y:=hSw.p.cell 2 (I J C.lv) rfl;go_simp;try rfl))
 refine tk 14 ?_
 refine tk 15 ?_ (hy:=fun W hSw=>by (have y:=hSw.p.cell 3 (bO C.wk) rfl;go_simp;try rfl))
 refine tk 16 ?_
 refine tk 17 ?_ (hy:=fun W hSw=>by (have y:=hSw.p.cell 4 (bO C.ov) rfl;go_simp;try rfl))
 refine tk 18 ?_
 refine tk 19 ?_ (hy:=fun W hSw=>by (have y:=hSw.p.cell 5 (bO C.ow) rfl;go_simp;try rfl))
 refine tk 20 ?_
 refine tk 21 ?_ (hy:=fun W hSw=>by (have y:=hSw.p.cell 6 (bO C.tx) rfl;go_simp;try rfl))
 refine tk 22 ?_
 refine tk 23 ?_ (hy:=fun W hSw=>by (have y:=hSw.p.cell 7 (bO C.ak) rfl;go_simp;try rfl))
 refine tk 24 ?_
 refine tk 25 ?_ (hy:=fun W hSw=>by (have y:=hSw.p.cell 8 (I J C.rn) rfl;go_simp;try rfl))
 refine tk 26 ?_
 refine al 2 fun K2 hK2=>?_
 go_simp;refine (HO.out _ hS.b).mono ?_
 rintro o w2 ⟨P,rfl,hr,hb⟩;have hS2:=hS.below hb
 have HR2:Hid (R P w2):=hr
 clear hr hb;go_wp2_with fail;refine hK2.out _ _ hS2 (fun hS3=>?_)
 clear hK2 K2 hS2 hS;have hS:=hS3
 clear hS3;refine tk 7 ?_
 refine al 27 fun K2 hK2=>?_
 go_simp;refine (HP.out _).mono ?_
 rintro o w3 ⟨rfl,hb⟩;have hS2:=hS.below hb
 have HR3:Hid (R P w3):=HR.out _ _ _ HR2.out hb
 clear hb HR2;go_wp2_with fail;refine hK2.out _ _ hS2 (fun hS3=>?_)
 clear hK2 K2 hS2 hS;have hS:=hS3
 clear hS3;refine tk 28 (v:=aG (mcL P C).toArray) ?_ (hy:=fun W hSw=>by (simp only[prL,mcL,mcH,sgL,List.cons_append,List.nil_append];go_simp;try rfl))
 refine al 29 fun K2 hK2=>?_
 go_simp;have hS2:ctS w w.heap.size C s (w3.alloc (.cells (mcL P C).toArray 125)):=hS.below ((bW _ _).alloc (nR _) _)
 have HB3:Hid (Below w.heap.size w w3):=hS.b
 refine hK2.out _ _ hS2 (fun hS3=>?_)
 clear hK2 K2 hS2 hS;have hS:=hS3
 clear hS3;refine tk 30 ?_
 refine wpAnyH_done (by kernel_rfl) ?_ _
 go_wp2_with fail;go_ret;exact⟨P,w3,rfl,rfl,HR3.out,HB3.out⟩
structure okM (C:Co):Prop where
 p:0≤C.p∧C.p≤7
 te:0≤C.te∧C.te≤256
 re:0≤C.re∧C.re≤255
 of:C.p=7↔C.te=256
 ct:rLo C.p≤C.ct∧C.ct≤rHi C.p
 lv:0≤C.lv∧C.lv≤1
 l1:C.lv=1→C.p=2∧C.wk=true∧0<C.ct
 wk:C.wk=true→C.p=2∧C.ov=false
 ov:C.ov=true→C.p=2∨C.p=3∨C.p=4
 ow:C.ow=true→C.wk=true∧C.tx=true
 tx:C.tx=true→C.p≠7∧C.p≠0
 t6:C.p=6→C.tx=true
 ak:C.ak=true→C.p=7
 rn:0≤C.rn∧C.rn<128
 na:C.ak=false→C.rn=0∧(C.p=7→C.ct=0)
end Go.Proofs.YtkfcfigbgmbaiaaGreat
