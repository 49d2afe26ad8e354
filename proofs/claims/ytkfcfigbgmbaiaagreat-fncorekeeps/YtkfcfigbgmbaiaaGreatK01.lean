import Derived.Test.YtkfcfigbgmbaiaaGreatK00
import Derived.Deep.RegionHeld3
namespace Go.Proofs.YtkfcfigbgmbaiaaGreat
open Go.RowKit
set_option maxHeartbeats 16000000
open Go.Value renaming int→I,slice→sL,bool→bO,pointer→pT,agg→aG
open Go.IntKind renaming i64→J
open Go.Ending renaming returned→rT
open Go.Proofs.Tryz renaming prog→Tp
def okCf (a b c d:Int):Bool:=decide (1≤a∧a≤8∧1≤b∧b≤16∧0≤c∧c≤1∧1≤d∧d≤32)
theorem inRange_any (w:World) (v l m:Int):Calls Tp 43 #[I J v,I J l,I J m] w fun o w'=>o = rT (bO (decide (l≤v∧v≤m)))∧w=w':=by
 have HD:Hid (∀ b:Bool,(b=true↔(l≤v∧v≤m))→b=decide (l≤v∧v≤m)):=fun b h=>by rw[Bool.eq_iff_iff,h];simp
 generalize decide (l≤v∧v≤m)=R at *;go_enter Tryz.func43,Tryz.ntmps43
 go_wp2
 all_goals
  go_ret;refine⟨ret_bool (HD.out _ ?_),rfl⟩
  simp
  try omega
theorem l3okConfig_any (w:World) (a b c d:Int):Calls Tp 127 #[cfV a b c d] w fun o w'=>o = rT (bO (okCf a b c d))∧Below w.heap.size w w':=by
 go_enter Tryz.func127,Tryz.ntmps127
 go_wp2
 all_goals
  go_ret;refine⟨ret_bool ?_,(bW _ _).alloc (nR _) _⟩
  unfold okCf
  rw[Bool.eq_iff_iff]
  simp
  try omega
theorem validConfig_any (w:World) (a b c d:Int):Calls Tp 169 #[cfV a b c d] w fun o w'=>o = rT (bO (okCf a b c d))∧Below w.heap.size w w':=by
 go_enter Tryz.func169,Tryz.ntmps169
 go_wp2_with (first | (go_at_call 43;refine (inRange_any _ _ _ _).mono ?_;rintro o w1 ⟨rfl,rfl⟩))
 all_goals
  go_ret;refine⟨ret_bool ?_,(bW _ _).alloc (nR _) _⟩
  unfold okCf
  rw[Bool.eq_iff_iff]
  simp
  try omega
def okFl (x:R3):Bool:=decide (x.m<(if x.e=true then 536870912 else 2048)) && decide (x.k<(if x.e=true then 536870912 else 2048))
theorem wrongFilter_any (w:World) (x:R3):Calls Tp 207 #[flV x.e x.m x.k] w fun o w'=>o = rT (bO (!okFl x))∧Below w.heap.size w w':=by
 obtain⟨e,m,k⟩:=x
 cases e
 ·have HD:Hid (∀ b:Bool,(b=true↔¬ (m<2048∧k<2048))→b = !okFl ⟨false,m,k⟩):=fun b h=>by rw[Bool.eq_iff_iff,h];simp[okFl];omega
  generalize okFl ⟨false,m,k⟩=R at *;go_enter Tryz.func207,Tryz.ntmps207
  go_wp2
  all_goals
   go_ret;refine⟨ret_bool (HD.out _ ?_),(bW _ _).alloc (nR _) _⟩
   simp
   try omega
 ·have HD:Hid (∀ b:Bool,(b=true↔¬ (m<536870912∧k<536870912))→b = !okFl ⟨true,m,k⟩):=fun b h=>by rw[Bool.eq_iff_iff,h];simp[okFl];omega
  generalize okFl ⟨true,m,k⟩=R at *;go_enter Tryz.func207,Tryz.ntmps207
  go_wp2
  all_goals
   go_ret;refine⟨ret_bool (HD.out _ ?_),(bW _ _).alloc (nR _) _⟩
   simp
   try omega
variable {bs:List R3} {k:Nat}
theorem all_snoc (hk:k<bs.length) (h:∀ j (hj:j<bs.length),j<k→okFl bs[j]=true) (h1:okFl bs[k]=true):∀ j (hj:j<bs.length),j<k+1→okFl bs[j]=true:=by
 intro j hj h2;by_cases e:j=k
 ·subst e;exact h1
 ·exact h j hj (by omega)
theorem all_yes (hk:bs.length≤k) (h:∀ j (hj:j<bs.length),j<k→okFl bs[j]=true):bs.all okFl=true:=by
 rw[List.all_eq_true]
 intro x hx;obtain⟨j,hj,rfl⟩:=List.getElem_of_mem hx
 exact h j hj (by omega)
theorem all_no (hk:k<bs.length) (h1:okFl bs[k]=false):bs.all okFl=false:=by
 rw[List.all_eq_false]
 exact⟨bs[k],List.getElem_mem hk,by rw[h1];simp⟩
theorem indexFunc_any (w:World) (a:Option Addr) (n cap:Nat) (bs:List R3) (h:isR3s w a n cap bs) (hn:n≤1048576) :
  Calls Tp 224 #[sL a n cap,.func (.func 207) #[] #[]] w fun o w'=>∃ z:Int,o = rT (I J z)∧decide (0≤z) = !bs.all okFl∧Below w.heap.size w w':=by
 have hlen:=h.len
 have hcp:=h.cap
 by_cases hl:bs=[]
 ·subst hl;have hn0:n=0:=hlen
  subst hn0;clear hlen h;go_enter Tryz.func224,Tryz.ntmps224
  go_wp2
  go_loopw [8] (fun i wr=>i = I J 0∧wr=w) (fun _ _=>0)
  case atStart=>exact⟨rfl,rfl⟩
  case round=>
   obtain⟨rfl,rfl⟩:=hrel
   go_wp2
   go_ret;exact⟨-1,rfl,rfl,bW _ _⟩
 ·obtain⟨g,off,rfl,hc⟩:=h.cells hl
  have HL:Hid (n=bs.length):=hlen
  have HC:Hid (∀ j (h:j<bs.length),at3 w g (off+j*3) bs[j]):=hc
  have hgz:g<w.heap.size:=World.block_lt_of_cell? w _ (hc 0 (List.length_pos_iff.2 hl)).c0
  clear h hlen hc;go_enter Tryz.func224,Tryz.ntmps224
  go_wp2
  go_loopw [8] (fun i wr=>∃ k:Nat,k≤n∧i = I J (k:Int)∧(∀ j (hj:j<bs.length),j<k→okFl bs[j]=true)∧Below w.heap.size w wr) (fun i _=>n-(intOf i).toNat)
  case atStart=>exact⟨0,nZ _,rfl,fun j hj h=>absurd h (nN _),bW _ _⟩
  case round=>
   obtain⟨k,hk,rfl,hdone,hb⟩:=hrel
   by_cases hlt:k<n
   ·have hkl:k<bs.length:=by have:=HL.out;omega
    have hx:=HC.out k hkl
    have x0:=(hb.cell (by exact hgz)).trans hx.c0
    have x1:=(hb.cell (by exact hgz)).trans hx.c1
    have x2:=(hb.cell (by exact hgz)).trans hx.c2
    have HB:Hid (Below w.heap.size w wr):=hb
    have HD:Hid (∀ j (hj:j<bs.length),j<k→okFl bs[j]=true):=hdone
    have HW:Hid (∀ W,Calls Tp 207 #[flV bs[k].e bs[k].m bs[k].k] W fun o w'=>o = rT (bO (!okFl bs[k]))∧Below W.heap.size W w'):=fun W=>wrongFilter_any W bs[k]
    clear hx hb hdone;cases hok:okFl bs[k]
    ·have HN:Hid (bs.all okFl=false):=all_no hkl hok
     rw[hok] at HW
     clear hok;generalize bs[k].e=e0 at *;generalize bs[k].m=m0 at *;generalize bs[k].k=k0 at *;go_wp2_with (first | (go_at_call 207;refine (HW.out _).mono ?_;rintro o w5 ⟨rfl,hb5⟩))
     go_ret;exact⟨_,rfl,by rw[HN.out];simp,HB.out.trans (hb5.mono HB.out.size)⟩
    ·have HN:Hid (∀ j (hj:j<bs.length),j<k+1→okFl bs[j]=true):=all_snoc hkl HD.out hok
     rw[hok] at HW
     clear hok;generalize bs[k].e=e0 at *;generalize bs[k].m=m0 at *;generalize bs[k].k=k0 at *;go_wp2_with (first | (go_at_call 207;refine (HW.out _).mono ?_;rintro o w5 ⟨rfl,hb5⟩))
     go_roundw
     case rel=>exact⟨k+1,by omega,by go_num,HN.out,HB.out.trans (hb5.mono HB.out.size)⟩
     case measure=>simp[intOf];omega
   ·have HN:Hid (bs.all okFl=true):=all_yes (by have:=HL.out;omega) hdone
    clear hdone;go_wp2
    go_ret;exact⟨_,rfl,by rw[HN.out];simp,hb⟩
theorem containsFunc_any (w:World) (a:Option Addr) (n cap:Nat) (bs:List R3) (h:isR3s w a n cap bs) (hn:n≤1048576) :
  Calls Tp 206 #[sL a n cap,.func (.func 207) #[] #[]] w fun o w'=>o = rT (bO (!bs.all okFl))∧Below w.heap.size w w':=by
 have HI:Hid (Calls Tp 224 #[sL a n cap,.func (.func 207) #[] #[]] w fun o w'=>∃ z:Int,o = rT (I J z)∧decide (0≤z) = !bs.all okFl∧Below w.heap.size w w'):=indexFunc_any w a n cap bs h hn
 clear h;go_enter Tryz.func206,Tryz.ntmps206
 go_wp2_with (first | (go_at_call 224;refine HI.out.mono ?_;rintro o w5 ⟨z,rfl,hz,hb5⟩;have HZ:Hid (decide (0≤z) = !bs.all okFl):=hz;clear hz))
 go_ret;exact⟨ret_bool HZ.out,hb5⟩
def okFs (bs:List R3):Bool:=decide (bs.length≤16) && bs.all okFl
theorem validFilters_any (w:World) (a:Option Addr) (n cap:Nat) (bs:List R3) (h:isR3s w a n cap bs) (hn:n≤1048576) :
  Calls Tp 170 #[sL a n cap] w fun o w'=>o = rT (bO (okFs bs))∧Below w.heap.size w w':=by
 have hl:=h.len
 have HI:Hid (Calls Tp 206 #[sL a n cap,.func (.func 207) #[] #[]] w fun o w'=>o = rT (bO (!bs.all okFl))∧Below w.heap.size w w'):=containsFunc_any w a n cap bs h hn
 clear h;by_cases h16:n≤16
 ·have HD:Hid (okFs bs=bs.all okFl):=by unfold Hid okFs;rw[show decide (bs.length≤16)=true from decide_eq_true (by omega)];simp
  have hd:decide ((n:Int)≤16)=true:=by simp;omega
  clear hl;have hmf:∀ (fn:Fn) (first cap:Array Value) (w:World),(Instr.makeFunc fn first cap).run Tp w = .ok (.func fn first cap) w:=fun _ _ _ _=>rfl
  go_enter Tryz.func170,Tryz.ntmps170
  go_wp2_with (first | (go_at_call 206;refine HI.out.mono ?_;rintro o w5 ⟨rfl,hb5⟩))
  go_ret;exact⟨ret_bool (by rw[HD.out];try simp),hb5⟩
 ·have HD:Hid (okFs bs=false):=by unfold Hid okFs;rw[show decide (bs.length≤16)=false from decide_eq_false (by omega)];rfl
  have hd:decide ((n:Int)≤16)=false:=by simp;omega
  clear hl;go_enter Tryz.func170,Tryz.ntmps170
  go_wp2
  go_ret;exact⟨ret_bool HD.out.symm,bW _ _⟩
theorem below_q {B:Nat} (w:World) (q:Nat):Below B w (w.drewN q):=below_drewN (bW _ _) q
theorem okFl_iff (x:R3):okFl x=true↔(x.m<(if x.e=true then 536870912 else 2048)∧x.k<(if x.e=true then 536870912 else 2048)):=by simp[okFl]
theorem l3okFilters_any (w:World) (a:Option Addr) (n cap:Nat) (bs:List R3) (h:isR3s w a n cap bs) (hn:n≤1048576) :
  Calls Tp 128 #[sL a n cap] w fun o w'=>o = rT (bO (okFs bs))∧Below w.heap.size w w':=by
 have hlen:=h.len
 have hcp:=h.cap
 by_cases h16:n≤16
 ·have HF:Hid (okFs bs=bs.all okFl):=by unfold Hid okFs;rw[show decide (bs.length≤16)=true from decide_eq_true (by omega)];simp
  have hd:decide ((16:Int)<(n:Int))=false:=by simp;omega
  by_cases hl:bs=[]
  ·subst hl;have hn0:n=0:=hlen
   subst hn0;clear hlen h;go_enter Tryz.func128,Tryz.ntmps128
   go_wp2
   go_loopw [3,4] (fun i _ wr=>i = I J 0∧wr=w) (fun _ _ _=>0)
   case atStart=>exact⟨rfl,rfl⟩
   case round=>
    obtain⟨rfl,rfl⟩:=hrel
    go_wp2
    go_ret;exact⟨ret_bool HF.out.symm,bW _ _⟩
  ·obtain⟨g,off,rfl,hc⟩:=h.cells hl
   have HL:Hid (n=bs.length):=hlen
   have HC:Hid (∀ j (h:j<bs.length),at3 w g (off+j*3) bs[j]):=hc
   clear h hlen hc;go_enter Tryz.func128,Tryz.ntmps128
   go_wp2
   go_loopw [3,4] (fun i _ wr=>∃ k:Nat,k≤n∧i = I J (k:Int)∧(∀ j (hj:j<bs.length),j<k→okFl bs[j]=true)∧∃ q,wr=w.drewN q) (fun i _ _=>n-(intOf i).toNat)
   case atStart=>exact⟨0,nZ _,rfl,fun j hj h=>absurd h (nN _),0,rfl⟩
   case round=>
    obtain⟨k,hk,rfl,hdone,q,rfl⟩:=hrel
    have HD:Hid (∀ j (hj:j<bs.length),j<k→okFl bs[j]=true):=hdone
    clear hdone;by_cases hlt:k<n
    ·have hkl:k<bs.length:=by have:=HL.out;omega
     have hx:=HC.out k hkl
     have hgz:=World.block_lt_of_cell? w _ hx.c0
     have x0:=((below_q (B:=w.heap.size) w q).cell (by exact hgz)).trans hx.c0
     have x1:=((below_q (B:=w.heap.size) w q).cell (by exact hgz)).trans hx.c1
     have x2:=((below_q (B:=w.heap.size) w q).cell (by exact hgz)).trans hx.c2
     have HY:Hid (okFl bs[k]=true→∀ j (hj:j<bs.length),j<k+1→okFl bs[j]=true):=fun h=>all_snoc hkl HD.out h
     have HN:Hid (okFl bs[k]=false→bs.all okFl=false):=fun h=>all_no hkl h
     have HO:Hid (okFl bs[k]=true↔(bs[k].m<(if bs[k].e=true then 536870912 else 2048)∧bs[k].k<(if bs[k].e=true then 536870912 else 2048))):=okFl_iff bs[k]
     clear hx;generalize okFl bs[k]=R at *;generalize bs[k].m=m0 at *;generalize bs[k].k=k0 at *;generalize hW:w.drewN q=W at *;have HW:Hid (W=w.drewN q):=hW.symm
     clear hW;cases he:bs[k].e
     ·rw[he] at x0 HO
      clear he;by_cases hm:m0<2048
      ·have hdm:decide (2048≤m0)=false:=by simp;omega
       by_cases hk0:k0<2048
       ·have hdk:decide (2048≤k0)=false:=by simp;omega
        have HR:Hid (R=true):=HO.out.2 (by simp;omega)
        go_wp2
        go_roundw
        case rel=>exact⟨k+1,by omega,by go_num,HY.out HR.out,q,HW.out⟩
        case measure=>simp[intOf];omega
       ·have hdk:decide (2048≤k0)=true:=by simp;omega
        have HR:Hid (R=false):=by cases hR:R with | false=>exact rfl | true=>exact absurd (HO.out.1 hR) (by simp;omega)
        go_wp2
        go_ret;exact⟨ret_bool (by rw[HF.out,HN.out HR.out]),by rw[HW.out];exact below_q w q⟩
      ·have hdm:decide (2048≤m0)=true:=by simp;omega
       have HR:Hid (R=false):=by cases hR:R with | false=>exact rfl | true=>exact absurd (HO.out.1 hR) (by simp;omega)
       go_wp2
       go_ret;exact⟨ret_bool (by rw[HF.out,HN.out HR.out]),by rw[HW.out];exact below_q w q⟩
     ·rw[he] at x0 HO
      clear he;by_cases hm:m0<536870912
      ·have hdm:decide (536870912≤m0)=false:=by simp;omega
       by_cases hk0:k0<536870912
       ·have hdk:decide (536870912≤k0)=false:=by simp;omega
        have HR:Hid (R=true):=HO.out.2 (by simp;omega)
        go_wp2
        go_roundw
        case rel=>exact⟨k+1,by omega,by go_num,HY.out HR.out,q,HW.out⟩
        case measure=>simp[intOf];omega
       ·have hdk:decide (536870912≤k0)=true:=by simp;omega
        have HR:Hid (R=false):=by cases hR:R with | false=>exact rfl | true=>exact absurd (HO.out.1 hR) (by simp;omega)
        go_wp2
        go_ret;exact⟨ret_bool (by rw[HF.out,HN.out HR.out]),by rw[HW.out];exact below_q w q⟩
      ·have hdm:decide (536870912≤m0)=true:=by simp;omega
       have HR:Hid (R=false):=by cases hR:R with | false=>exact rfl | true=>exact absurd (HO.out.1 hR) (by simp;omega)
       go_wp2
       go_ret;exact⟨ret_bool (by rw[HF.out,HN.out HR.out]),by rw[HW.out];exact below_q w q⟩
    ·have HA:Hid (bs.all okFl=true):=all_yes (by have:=HL.out;omega) HD.out
     go_wp2
     go_ret;exact⟨ret_bool (by rw[HF.out,HA.out]),below_q w q⟩
 ·have HF:Hid (okFs bs=false):=by unfold Hid okFs;rw[show decide (bs.length≤16)=false from decide_eq_false (by omega)];rfl
  have hd:decide ((16:Int)<(n:Int))=true:=by simp;omega
  clear h hlen;go_enter Tryz.func128,Tryz.ntmps128
  go_wp2
  go_ret;exact⟨ret_bool HF.out.symm,bW _ _⟩
def mkF (c:Nat):R3:=⟨decide (c % 3=0),((c+1:Nat):Int),((c+2:Nat):Int)⟩
variable {w:World} {b:Nat} {l:List Value} {t:TypeId}
theorem setCells_block (b:Nat) (t:TypeId):∀ (vs old pre post:List Value) (w:World),old.length=vs.length→w.heap[b]?=some (.cells (pre++old++post).toArray t (0,0))→(w.setCells b pre.length vs).heap[b]?=some (.cells (pre++vs++post).toArray t (0,0)):=by
 intro vs;induction vs with
 | nil=>
  intro old pre post w hl h;have:old=[]:=List.length_eq_zero_iff.1 hl
  subst this;exact h
 | cons v vs ih=>
  intro old pre post w hl h;match old,hl with
  | o :: old',hl=>
   have h1:=heap_setCell_same w b pre.length _ _ v h
   have e:(pre++o :: old'++post).toArray.setIfInBounds pre.length v=((pre++[v])++old'++post).toArray:=by simp
   have h2:=ih old' (pre++[v]) post (w.setCell ⟨b,pre.length,none⟩ v) (by simpa using hl) (by rw[← e];exact h1)
   rw[List.length_append,List.length_singleton] at h2
   rw[List.append_assoc pre [v] vs] at h2
   exact h2
theorem range_block {fr:Nat × Nat} (h:w.heap[b]?=some (.cells l.toArray t fr)):w.rangeAt b 0 l:=fun j v hv=>by
 simp[World.cell?,h,hv]
theorem there_block (h:w.heap[b]?=some (.cells l.toArray t (0,0))) (o n:Nat) (ho:o+n≤l.length):w.there b o n:=fun j hj=>by
 refine⟨?_,?_⟩
 ·have:o+j<l.length:=by omega
  simp[World.cell?,h,this]
 ·simp[World.frozen?,h]
theorem sO (b k:Nat) (hk:k≠b) (vs:List Value) (w:World) (o:Nat):(w.setCells b o vs).heap[k]?=w.heap[k]?:=by
 rw[setCells_row];exact setRow_block b k hk vs w o
theorem St.setCells {B:Nat} {p:World→Prop} (h:St B w p) (b o:Nat) (hb:b<B) (vs:List Value):St B (w.setCells b o vs) p:=fun W hW=>h W fun k h1 h2=>(hW k h1 (by rw[setCells_row,setRow_size];exact h2)).trans (sO b k (by omega) vs w o)
theorem sz41:(Tp.info? 39).map (·.size)=some 10:=by kernel_rfl
theorem one10 (c0 c1 c2 c3:Int) (b1:Option Addr) (m1 l1:Nat) (b2:Option Addr) (m2 l2:Nat) (b3:Option Addr) (m3 l3:Nat) (b4:Option Addr) (m4 l4:Nat) (lo st:Int):(#[I J c0,I J c1,I J c2,I J c3,sL b1 m1 l1,sL b2 m2 l2,sL b3 m3 l3,sL b4 m4 l4,I J lo,I J st]:Array Value).all (·.oneCell')=true:=
 all_oneCell_toArray (by simp[Value.oneCell'])
set_option linter.unusedVariables false
variable {W W':World} {n g c cap:Nat} {hs:Nat→Hd} {a:Option Addr}
def ft (a:Option Addr) (n:Nat) (hs:Nat→Hd) (x:Nat):Prop:=a=some ⟨x,0,none⟩∨∃ j,j<n∧(hs j).1=some ⟨x,0,none⟩
def inn (B T:Nat) (a:Option Addr) (n:Nat) (hs:Nat→Hd):Prop:=∀ x,ft a n hs x→B≤x∧x<T
def sx8 (W:World) (a:Option Addr) (n cap:Nat) (hs:Nat→Hd):Prop:=(a=none∧n=0∧cap=0)∨∃ g,a=some ⟨g,0,none⟩∧sh8 W g n hs∧n≤cap
def sx5 (W:World) (a:Option Addr) (n cap:Nat) (hs:Nat→Hd):Prop:=(a=none∧n=0∧cap=0)∨∃ g,a=some ⟨g,0,none⟩∧sh5 W g n hs∧n≤cap
def mks8 (W:World) (a:Option Addr) (n c:Nat) (hs:Nat→Hd):Prop:=∀ g,a=some ⟨g,0,none⟩→∀ j,j<n→mk8 W g (j*8) (cn8 c hs j) (hs j)
def mks5 (W:World) (a:Option Addr) (n c:Nat) (hs:Nat→Hd):Prop:=∀ g,a=some ⟨g,0,none⟩→∀ j,j<n→mk5 W g (j*5) (cn5 c hs j) (hs j)
theorem mks8.up (h:mks8 W a n c hs) (he:∀ x,ft a n hs x→W'.heap[x]?=W.heap[x]?):mks8 W' a n c hs:=fun g e j hj=>(h g e j hj).up (he g (Or.inl e)) (fun b hb=>he b (Or.inr ⟨j,hj,hb⟩))
theorem mks5.up (h:mks5 W a n c hs) (he:∀ x,ft a n hs x→W'.heap[x]?=W.heap[x]?):mks5 W' a n c hs:=fun g e j hj=>(h g e j hj).up (he g (Or.inl e)) (fun b hb=>he b (Or.inr ⟨j,hj,hb⟩))
theorem hd.same {h:Hd} (H:hd W g h) (he:∀ b,h.1=some ⟨b,0,none⟩→W'.heap[b]?=W.heap[b]?):hd W' g h:=by
 obtain⟨h1,h2,h3⟩:=H
 refine⟨h1,h2,?_⟩
 rcases h3 with h3|⟨b,e,hn,hf⟩
 ·exact Or.inl h3
 ·exact Or.inr ⟨b,e,hn,hf.up (he b e)⟩
theorem sh8.same (h:sh8 W g n hs) (he:∀ x,ft (some ⟨g,0,none⟩) n hs x→W'.heap[x]?=W.heap[x]?):sh8 W' g n hs:=
 ⟨h.row.up (he g (Or.inl rfl)),fun j hj=>⟨cU (h.dat j hj).1 (he g (Or.inl rfl)),(h.dat j hj).2.same fun b hb=>he b (Or.inr ⟨j,hj,hb⟩)⟩⟩
theorem sh5.same (h:sh5 W g n hs) (he:∀ x,ft (some ⟨g,0,none⟩) n hs x→W'.heap[x]?=W.heap[x]?):sh5 W' g n hs:=
 ⟨h.row.up (he g (Or.inl rfl)),fun j hj=>⟨cU (h.dat j hj).1 (he g (Or.inl rfl)),(h.dat j hj).2.same fun b hb=>he b (Or.inr ⟨j,hj,hb⟩)⟩⟩
theorem sx8.same (h:sx8 W a n cap hs) (he:∀ x,ft a n hs x→W'.heap[x]?=W.heap[x]?):sx8 W' a n cap hs:=by
 rcases h with h|⟨g,e,h1,h2⟩
 ·exact Or.inl h
 ·subst e;exact Or.inr ⟨g,rfl,h1.same he,h2⟩
theorem sx5.same (h:sx5 W a n cap hs) (he:∀ x,ft a n hs x→W'.heap[x]?=W.heap[x]?):sx5 W' a n cap hs:=by
 rcases h with h|⟨g,e,h1,h2⟩
 ·exact Or.inl h
 ·subst e;exact Or.inr ⟨g,rfl,h1.same he,h2⟩
variable {W W':World} {B T n cap:Nat} {a:Option Addr} {hs:Nat→Hd}
structure Wh where
 g1:Nat
 n1:Nat
 k1:Nat
 a2:Option Addr
 n2:Nat
 k2:Nat
 h2:Nat→Hd
 a3:Option Addr
 n3:Nat
 k3:Nat
 h3:Nat→Hd
 a4:Option Addr
 n4:Nat
 k4:Nat
 h4:Nat→Hd
abbrev Wh.sl (s:Wh):Sl:=⟨some ⟨s.g1,0,none⟩,s.n1,s.k1,s.a2,s.n2,s.k2,s.a3,s.n3,s.k3,s.a4,s.n4,s.k4⟩
structure whS (B T:Nat) (W:World) (s:Wh):Prop where
 f:rowF W s.g1 (s.n1*3)
 fc:s.n1≤s.k1
 fb:B≤s.g1∧s.g1<T
 x:sx8 W s.a2 s.n2 s.k2 s.h2
 xb:inn B T s.a2 s.n2 s.h2
 r:sx5 W s.a3 s.n3 s.k3 s.h3
 rb:inn B T s.a3 s.n3 s.h3
 q:sx8 W s.a4 s.n4 s.k4 s.h4
 qb:inn B T s.a4 s.n4 s.h4
 m1:s.n1≤1048576
 m2:s.n2≤1048576
 m3:s.n3≤1048576
 m4:s.n4≤1048576
theorem whS.same {s:Wh} (h:whS B T W s) (he:∀ x,B≤x→x<T→W'.heap[x]?=W.heap[x]?):whS B T W' s:=
 ⟨h.f.up (he _ h.fb.1 h.fb.2),h.fc,h.fb,h.x.same (fun x hx=>he x (h.xb x hx).1 (h.xb x hx).2),h.xb,h.r.same (fun x hx=>he x (h.rb x hx).1 (h.rb x hx).2),h.rb,h.q.same (fun x hx=>he x (h.qb x hx).1 (h.qb x hx).2),h.qb,h.m1,h.m2,h.m3,h.m4⟩
structure whD (s:Wh):Prop where
 s12:¬ ft s.a2 s.n2 s.h2 s.g1
 s13:¬ ft s.a3 s.n3 s.h3 s.g1
 s14:¬ ft s.a4 s.n4 s.h4 s.g1
 s23:∀ x,ft s.a2 s.n2 s.h2 x→¬ ft s.a3 s.n3 s.h3 x
 s24:∀ x,ft s.a2 s.n2 s.h2 x→¬ ft s.a4 s.n4 s.h4 x
 s34:∀ x,ft s.a3 s.n3 s.h3 x→¬ ft s.a4 s.n4 s.h4 x
def Wh.c1 (s:Wh) (c:Nat):Nat:=c+3*s.n1
def Wh.c2 (s:Wh) (c:Nat):Nat:=cn8 (s.c1 c) s.h2 s.n2
def Wh.c3 (s:Wh) (c:Nat):Nat:=cn5 (s.c2 c) s.h3 s.n3
def Wh.c4 (s:Wh) (c:Nat):Nat:=cn8 (s.c3 c) s.h4 s.n4
structure whE (s:Wh):Prop where
 d2:dst s.h2 s.n2
 d3:dst s.h3 s.n3
 d4:dst s.h4 s.n4
structure whM (W:World) (s:Wh) (c:Nat):Prop where
 f:∀ j,j<s.n1→at3 W s.g1 (j*3) (mkF (c+3*j))
 x:mks8 W s.a2 s.n2 (s.c1 c) s.h2
 r:mks5 W s.a3 s.n3 (s.c2 c) s.h3
 q:mks8 W s.a4 s.n4 (s.c3 c) s.h4
theorem sx8.bd (h:sx8 W a n cap hs):∀ j,j<n→(hs j).2.1≤1048576:=by
 rcases h with⟨_,e,_⟩|⟨g,_,h,_⟩
 ·intro j hj;omega
 ·intro j hj;exact (h.dat j hj).2.1
theorem sx5.bd (h:sx5 W a n cap hs):∀ j,j<n→(hs j).2.1≤1048576:=by
 rcases h with⟨_,e,_⟩|⟨g,_,h,_⟩
 ·intro j hj;omega
 ·intro j hj;exact (h.dat j hj).2.1
theorem whS.c1 {s:Wh} (h:whS B T W s) {c:Nat} (hc:c≤1000):s.c1 c≤4000000:=by have:=h.m1;unfold Wh.c1;omega
theorem whS.c2 {s:Wh} (h:whS B T W s) {c:Nat} (hc:c≤1000):s.c2 c≤2000000000000:=by
 have h1:=h.c1 hc
 have h2:=cn8_le (s.c1 c) s.n2 s.h2 h.x.bd s.n2 (nR _)
 have h3:=h.m2
 unfold Wh.c2
 omega
theorem whS.c3 {s:Wh} (h:whS B T W s) {c:Nat} (hc:c≤1000):s.c3 c≤4000000000000:=by
 have h1:=h.c2 hc
 have h2:=cn5_le (s.c2 c) s.n3 s.h3 h.r.bd s.n3 (nR _)
 have h3:=h.m3
 unfold Wh.c3
 omega
theorem whS.c4 {s:Wh} (h:whS B T W s) {c:Nat} (hc:c≤1000):s.c4 c≤6000000000000:=by
 have h1:=h.c3 hc
 have h2:=cn8_le (s.c3 c) s.n4 s.h4 h.q.bd s.n4 (nR _)
 have h3:=h.m4
 unfold Wh.c4
 omega
theorem whM.same {s:Wh} {c:Nat} (h:whM W s c) (hs:whS B T W s) (he:∀ x,B≤x→x<T→W'.heap[x]?=W.heap[x]?):whM W' s c:=
 ⟨fun j hj=>(h.f j hj).up (he _ hs.fb.1 hs.fb.2),h.x.up (fun x hx=>he x (hs.xb x hx).1 (hs.xb x hx).2),h.r.up (fun x hx=>he x (hs.rb x hx).1 (hs.rb x hx).2),h.q.up (fun x hx=>he x (hs.qb x hx).1 (hs.qb x hx).2)⟩
variable {n B T g cap:Nat} {W:World} {a:Option Addr} {hs:Nat→Hd}
theorem wr8.sh (h:wr8 B T W g n) (hm:∀ j,j<n→∀ a m c,W.cell? ⟨g,j*8+7,none⟩=some (sL a m c)→m≤1048576):∃ hs:Nat→Hd,sh8 W g n hs∧inn B T (some ⟨g,0,none⟩) n hs:=by
 have key:∀ j,∃ x:Hd,j<n→W.cell? ⟨g,j*8+7,none⟩=some (sL x.1 x.2.1 x.2.2)∧hd W g x∧∀ b,x.1=some ⟨b,0,none⟩→B≤b∧b<T:=by
  intro j;by_cases hj:j<n
  ·obtain⟨gd,m,h1,h2,h3,h4,h5⟩:=h.dat j hj
   exact⟨(some ⟨gd,0,none⟩,m,m),fun _=>⟨h1,⟨hm j hj _ _ _ h1,nR _,Or.inr ⟨gd,rfl,h3,h2⟩⟩,fun b hb=>by cases hb;exact⟨h4,h5⟩⟩⟩
  ·exact⟨(none,0,0),fun e=>absurd e hj⟩
 refine⟨fun j=>Classical.choose (key j),⟨h.row,fun j hj=>⟨(Classical.choose_spec (key j) hj).1,(Classical.choose_spec (key j) hj).2.1⟩⟩,fun x hx=>?_⟩
 rcases hx with e|⟨j,hj,e⟩
 ·cases e;exact⟨h.lo,h.hi⟩
 ·exact (Classical.choose_spec (key j) hj).2.2 x e
theorem isR8s.hdr {bs:List R8} (h:isR8s W (some ⟨g,0,none⟩) n cap bs) (hd:∀ j (h:j<bs.length),bs[j].l.length≤1048576):∀ j,j<n→∀ a m c,W.cell? ⟨g,j*8+7,none⟩=some (sL a m c)→m≤1048576:=by
 intro j hj a m c hc;have hl:=h.len
 obtain⟨g',off,e,hcs⟩:=h.cells (by intro e;subst e;simp at hl;omega)
 cases e
 obtain⟨ao,m',c',hat⟩:=hcs j (by omega)
 have h1:=hat.cs
 rw[Nat.zero_add,hc] at h1
 cases h1
 have h2:=hat.dat.len
 have h3:=hd j (by omega)
 omega
theorem wr5.sh (h:wr5 B T W g n) (hm:∀ j,j<n→∀ a m c,W.cell? ⟨g,j*5+4,none⟩=some (sL a m c)→m≤1048576):∃ hs:Nat→Hd,sh5 W g n hs∧inn B T (some ⟨g,0,none⟩) n hs:=by
 have key:∀ j,∃ x:Hd,j<n→W.cell? ⟨g,j*5+4,none⟩=some (sL x.1 x.2.1 x.2.2)∧hd W g x∧∀ b,x.1=some ⟨b,0,none⟩→B≤b∧b<T:=by
  intro j;by_cases hj:j<n
  ·obtain⟨gd,m,h1,h2,h3,h4,h5⟩:=h.dat j hj
   exact⟨(some ⟨gd,0,none⟩,m,m),fun _=>⟨h1,⟨hm j hj _ _ _ h1,nR _,Or.inr ⟨gd,rfl,h3,h2⟩⟩,fun b hb=>by cases hb;exact⟨h4,h5⟩⟩⟩
  ·exact⟨(none,0,0),fun e=>absurd e hj⟩
 refine⟨fun j=>Classical.choose (key j),⟨h.row,fun j hj=>⟨(Classical.choose_spec (key j) hj).1,(Classical.choose_spec (key j) hj).2.1⟩⟩,fun x hx=>?_⟩
 rcases hx with e|⟨j,hj,e⟩
 ·cases e;exact⟨h.lo,h.hi⟩
 ·exact (Classical.choose_spec (key j) hj).2.2 x e
theorem isR5s.hdr {bs:List R5} (h:isR5s W (some ⟨g,0,none⟩) n cap bs) (hd:∀ j (h:j<bs.length),bs[j].l.length≤1048576):∀ j,j<n→∀ a m c,W.cell? ⟨g,j*5+4,none⟩=some (sL a m c)→m≤1048576:=by
 intro j hj a m c hc;have hl:=h.len
 obtain⟨g',off,e,hcs⟩:=h.cells (by intro e;subst e;simp at hl;omega)
 cases e
 obtain⟨ao,m',c',hat⟩:=hcs j (by omega)
 have h1:=hat.cs
 rw[Nat.zero_add,hc] at h1
 cases h1
 have h2:=hat.dat.len
 have h3:=hd j (by omega)
 omega
theorem inn.mono {B' T':Nat} (h:inn B T a n hs) (hB:B'≤B) (hT:T≤T'):inn B' T' a n hs:=fun x hx=>by have:=h x hx;omega
theorem inn.out (h:inn B T a n hs) {x:Nat} (hx:x<B∨T≤x):¬ ft a n hs x:=fun h1=>by have:=h x h1;omega
def esZ (p t r:Int):Int:=if p=7 then 2 else if 128≤t∨128≤r then 1 else 0
theorem l4state_any (w:World) (p t r:Int):Calls Tp 62 #[I J p,I J t,I J r] w fun o w'=>o = rT (I J (esZ p t r))∧w=w':=by
 by_cases h:p=7
 ·have HZ:Hid (esZ p t r=2):=by unfold Hid esZ;rw[if_pos h]
  have hd:(p == 7)=true:=by simpa using h
  clear h;go_enter Tryz.func62,Tryz.ntmps62
  go_wp2
  go_ret;exact⟨ret_int HZ.out.symm,rfl⟩
 ·have hd:(p == 7)=false:=by simpa using h
  by_cases ht:128≤t
  ·have HZ:Hid (esZ p t r=1):=by unfold Hid esZ;rw[if_neg h,if_pos (.inl ht)]
   have hd1:decide (128≤t)=true:=by simpa using ht
   clear h;go_enter Tryz.func62,Tryz.ntmps62
   go_wp2
   go_ret;exact⟨ret_int HZ.out.symm,rfl⟩
  ·have hd1:decide (128≤t)=false:=by simpa using ht
   by_cases hr:128≤r
   ·have HZ:Hid (esZ p t r=1):=by unfold Hid esZ;rw[if_neg h,if_pos (.inr hr)]
    have hd2:decide (128≤r)=true:=by simpa using hr
    clear h;go_enter Tryz.func62,Tryz.ntmps62
    go_wp2
    go_ret;exact⟨ret_int HZ.out.symm,rfl⟩
   ·have hd2:decide (128≤r)=false:=by simpa using hr
    have HZ:Hid (esZ p t r=0):=by unfold Hid esZ;rw[if_neg h,if_neg (by omega)]
    clear h;go_enter Tryz.func62,Tryz.ntmps62
    go_wp2
    go_ret;exact⟨ret_int HZ.out.symm,rfl⟩
theorem stateOf_any (w:World) (p t r:Int) (b:Bool) (hb:b=decide (p=7)):Calls Tp 70 #[bO b,I J t,I J r] w fun o w'=>o = rT (I J (esZ p t r))∧w=w':=by
 by_cases h:p=7
 ·have HZ:Hid (esZ p t r=2):=by unfold Hid esZ;rw[if_pos h]
  have hd:b=true:=by rw[hb];simpa using h
  subst hd;clear hb h;go_enter Tryz.func70,Tryz.ntmps70
  go_wp2
  go_ret;exact⟨ret_int HZ.out.symm,rfl⟩
 ·have hd:b=false:=by rw[hb];simpa using h
  subst hd;by_cases ht:128≤max t r
  ·have HZ:Hid (esZ p t r=1):=by unfold Hid esZ;rw[if_neg h,if_pos (by omega)]
   clear hb h;have hd1:decide (128≤max t r)=true:=by simpa using ht
   go_enter Tryz.func70,Tryz.ntmps70
   go_wp2
   all_goals
    go_ret;exact⟨ret_int HZ.out.symm,rfl⟩
  ·have HZ:Hid (esZ p t r=0):=by unfold Hid esZ;rw[if_neg h,if_neg (by omega)]
   clear hb h;have hd1:decide (128≤max t r)=false:=by simpa using ht
   go_enter Tryz.func70,Tryz.ntmps70
   go_wp2
   all_goals
    go_ret;exact⟨ret_int HZ.out.symm,rfl⟩
def rLo (p:Int):Int:=if p=4 then 1 else 0
def rHi (p:Int):Int:=if p=2 then 5 else if p=3 then 15 else if p=4 then 7 else if p=5 then 2 else if p=6 then 7 else if p=7 then 10 else 0
theorem l4room_any (w:World) (p:Int):Calls Tp 75 #[I J p] w fun o w'=>o = rT (.tuple #[I J (rLo p),I J (rHi p)])∧w=w':=by
 by_cases h2:p=2
 ·subst h2;go_enter Tryz.func75,Tryz.ntmps75
  go_wp2
  go_ret2
  exact⟨rfl,rfl⟩
 by_cases h3:p=3
 ·subst h3;go_enter Tryz.func75,Tryz.ntmps75
  go_wp2
  go_ret2
  exact⟨rfl,rfl⟩
 by_cases h4:p=4
 ·subst h4;go_enter Tryz.func75,Tryz.ntmps75
  go_wp2
  go_ret2
  exact⟨rfl,rfl⟩
 by_cases h5:p=5
 ·subst h5;go_enter Tryz.func75,Tryz.ntmps75
  go_wp2
  go_ret2
  exact⟨rfl,rfl⟩
 by_cases h6:p=6
 ·subst h6;go_enter Tryz.func75,Tryz.ntmps75
  go_wp2
  go_ret2
  exact⟨rfl,rfl⟩
 by_cases h7:p=7
 ·subst h7;go_enter Tryz.func75,Tryz.ntmps75
  go_wp2
  go_ret2
  exact⟨rfl,rfl⟩
 have HZ:Hid (rLo p=0∧rHi p=0):=by unfold Hid rLo rHi;rw[if_neg h4,if_neg h2,if_neg h3,if_neg h4,if_neg h5,if_neg h6,if_neg h7];exact⟨rfl,rfl⟩
 have e2:(p == 2)=false:=by simpa using h2
 have e3:(p == 3)=false:=by simpa using h3
 have e4:(p == 4)=false:=by simpa using h4
 have e5:(p == 5)=false:=by simpa using h5
 have e6:(p == 6)=false:=by simpa using h6
 have e7:(p == 7)=false:=by simpa using h7
 clear h2 h3 h4 h5 h6 h7;go_enter Tryz.func75,Tryz.ntmps75
 go_wp2
 go_ret2
 exact⟨by rw[HZ.out.1,HZ.out.2];rfl,rfl⟩
end Go.Proofs.YtkfcfigbgmbaiaaGreat
