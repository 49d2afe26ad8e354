import Derived.Test.YtaamahohdnbpiaaGreatG00
import Derived.Deep.RegionHeld3
namespace Go.Proofs.YtaamahohdnbpiaaGreat
open Go.RowKit
def okCf (a b c d:Int):Bool:=decide (1≤a∧a≤8∧1≤b∧b≤16∧0≤c∧c≤1∧1≤d∧d≤32)
theorem okCf_yes {a b c d:Int} (h:1≤a∧a≤8∧1≤b∧b≤16∧0≤c∧c≤1∧1≤d∧d≤32):okCf a b c d=true:=decide_eq_true h
theorem inRange_any (w:World) (v l m:Int):Calls Tryz.prog 115 #[.int .i64 v,.int .i64 l,.int .i64 m] w fun o w'=>o = .returned (.bool (decide (l≤v∧v≤m)))∧w=w':=by
 have HD:Hid (∀ b:Bool,(b=true↔(l≤v∧v≤m))→b=decide (l≤v∧v≤m)):=fun b h=>by rw[Bool.eq_iff_iff,h];simp
 generalize decide (l≤v∧v≤m)=R at *;go_enter Tryz.func115,Tryz.ntmps115
 go_wp2
 all_goals
  go_ret;refine⟨ret_bool (HD.out _ ?_),rfl⟩
  simp
  try omega
set_option maxHeartbeats 1000000 in
theorem l3okConfig_any (w:World) (a b c d:Int):Calls Tryz.prog 69 #[cfV a b c d] w fun o w'=>o = .returned (.bool (okCf a b c d))∧Below w.heap.size w w':=by
 go_enter Tryz.func69,Tryz.ntmps69
 go_wp2
 all_goals
  go_ret;refine⟨ret_bool ?_,(Below.refl _ _).alloc (Nat.le_refl _) _⟩
  unfold okCf
  rw[Bool.eq_iff_iff]
  simp
  try omega
set_option maxHeartbeats 1000000 in
theorem validConfig_any (w:World) (a b c d:Int):Calls Tryz.prog 53 #[cfV a b c d] w fun o w'=>o = .returned (.bool (okCf a b c d))∧Below w.heap.size w w':=by
 go_enter Tryz.func53,Tryz.ntmps53
 go_wp2_with (first | (go_at_call 115;refine (inRange_any _ _ _ _).mono ?_;rintro o w1 ⟨rfl,rfl⟩))
 all_goals
  go_ret;refine⟨ret_bool ?_,(Below.refl _ _).alloc (Nat.le_refl _) _⟩
  unfold okCf
  rw[Bool.eq_iff_iff]
  simp
  try omega
def okFl (x:R3):Bool:=decide (x.m<(if x.e=true then 536870912 else 2048)) && decide (x.k<(if x.e=true then 536870912 else 2048))
set_option maxHeartbeats 1000000 in
theorem wrongFilter_any (w:World) (x:R3):Calls Tryz.prog 117 #[flV x.e x.m x.k] w fun o w'=>o = .returned (.bool (!okFl x))∧Below w.heap.size w w':=by
 obtain⟨e,m,k⟩:=x
 cases e
 ·have HD:Hid (∀ b:Bool,(b=true↔¬ (m<2048∧k<2048))→b = !okFl ⟨false,m,k⟩):=fun b h=>by rw[Bool.eq_iff_iff,h];simp[okFl];omega
  generalize okFl ⟨false,m,k⟩=R at *;go_enter Tryz.func117,Tryz.ntmps117
  go_wp2
  all_goals
   go_ret;refine⟨ret_bool (HD.out _ ?_),(Below.refl _ _).alloc (Nat.le_refl _) _⟩
   simp
   try omega
 ·have HD:Hid (∀ b:Bool,(b=true↔¬ (m<536870912∧k<536870912))→b = !okFl ⟨true,m,k⟩):=fun b h=>by rw[Bool.eq_iff_iff,h];simp[okFl];omega
  generalize okFl ⟨true,m,k⟩=R at *;go_enter Tryz.func117,Tryz.ntmps117
  go_wp2
  all_goals
   go_ret;refine⟨ret_bool (HD.out _ ?_),(Below.refl _ _).alloc (Nat.le_refl _) _⟩
   simp
   try omega
theorem all_snoc {bs:List R3} {k:Nat} (hk:k<bs.length) (h:∀ j (hj:j<bs.length),j<k→okFl bs[j]=true) (h1:okFl bs[k]=true):∀ j (hj:j<bs.length),j<k+1→okFl bs[j]=true:=by
 intro j hj h2;by_cases e:j=k
 ·subst e;exact h1
 ·exact h j hj (by omega)
theorem all_yes {bs:List R3} {k:Nat} (hk:bs.length≤k) (h:∀ j (hj:j<bs.length),j<k→okFl bs[j]=true):bs.all okFl=true:=by
 rw[List.all_eq_true]
 intro x hx;obtain⟨j,hj,rfl⟩:=List.getElem_of_mem hx
 exact h j hj (by omega)
theorem all_no {bs:List R3} {k:Nat} (hk:k<bs.length) (h1:okFl bs[k]=false):bs.all okFl=false:=by
 rw[List.all_eq_false]
 exact⟨bs[k],List.getElem_mem hk,by rw[h1];simp⟩
set_option maxHeartbeats 2000000 in
theorem indexFunc_any (w:World) (a:Option Addr) (n cap:Nat) (bs:List R3) (h:isR3s w a n cap bs) (hn:n≤1048576) :
  Calls Tryz.prog 159 #[.slice a n cap,.func (.func 117) #[] #[]] w fun o w'=>∃ z:Int,o = .returned (.int .i64 z)∧decide (0≤z) = !bs.all okFl∧Below w.heap.size w w':=by
 have hlen:=h.len
 have hcp:=h.cap
 by_cases hl:bs=[]
 ·subst hl;have hn0:n=0:=hlen
  subst hn0;clear hlen h;go_enter Tryz.func159,Tryz.ntmps159
  go_wp2
  go_loopw [8] (fun i wr=>i = .int .i64 0∧wr=w) (fun _ _=>0)
  case atStart=>exact⟨rfl,rfl⟩
  case round=>
   obtain⟨rfl,rfl⟩:=hrel
   go_wp2
   go_ret;exact⟨-1,rfl,rfl,Below.refl _ _⟩
 ·obtain⟨g,off,rfl,hc⟩:=h.cells hl
  have HL:Hid (n=bs.length):=hlen
  have HC:Hid (∀ j (h:j<bs.length),at3 w g (off+j*3) bs[j]):=hc
  have hgz:g<w.heap.size:=World.block_lt_of_cell? w _ (hc 0 (List.length_pos_iff.2 hl)).c0
  clear h hlen hc;go_enter Tryz.func159,Tryz.ntmps159
  go_wp2
  go_loopw [8] (fun i wr=>∃ k:Nat,k≤n∧i = .int .i64 (k:Int)∧(∀ j (hj:j<bs.length),j<k→okFl bs[j]=true)∧Below w.heap.size w wr) (fun i _=>n-(intOf i).toNat)
  case atStart=>exact⟨0,Nat.zero_le _,rfl,fun j hj h=>absurd h (Nat.not_lt_zero _),Below.refl _ _⟩
  case round=>
   obtain⟨k,hk,rfl,hdone,hb⟩:=hrel
   by_cases hlt:k<n
   ·have hkl:k<bs.length:=by have:=HL.out;omega
    have hx:=HC.out k hkl
    have x0:=(hb.cell (by exact hgz)).trans hx.c0
    have x1:=(hb.cell (by exact hgz)).trans hx.c1
    have x2:=(hb.cell (by exact hgz)).trans hx.c2
    have HB:Hid (Below w.heap.size w wr):=hb
    have HD:Hid (∀ j (hj:j<bs.length),j<k→okFl bs[j]=true):=hdone
    have HW:Hid (∀ W,Calls Tryz.prog 117 #[flV bs[k].e bs[k].m bs[k].k] W fun o w'=>o = .returned (.bool (!okFl bs[k]))∧Below W.heap.size W w'):=fun W=>wrongFilter_any W bs[k]
    clear hx hb hdone;cases hok:okFl bs[k]
    ·have HN:Hid (bs.all okFl=false):=all_no hkl hok
     rw[hok] at HW
     clear hok;generalize bs[k].e=e0 at *;generalize bs[k].m=m0 at *;generalize bs[k].k=k0 at *;go_wp2_with (first | (go_at_call 117;refine (HW.out _).mono ?_;rintro o w5 ⟨rfl,hb5⟩))
     go_ret;exact⟨_,rfl,by rw[HN.out];simp,HB.out.trans (hb5.mono HB.out.size)⟩
    ·have HN:Hid (∀ j (hj:j<bs.length),j<k+1→okFl bs[j]=true):=all_snoc hkl HD.out hok
     rw[hok] at HW
     clear hok;generalize bs[k].e=e0 at *;generalize bs[k].m=m0 at *;generalize bs[k].k=k0 at *;go_wp2_with (first | (go_at_call 117;refine (HW.out _).mono ?_;rintro o w5 ⟨rfl,hb5⟩))
     go_roundw
     case rel=>exact⟨k+1,by omega,by go_num,HN.out,HB.out.trans (hb5.mono HB.out.size)⟩
     case measure=>simp[intOf];omega
   ·have HN:Hid (bs.all okFl=true):=all_yes (by have:=HL.out;omega) hdone
    clear hdone;go_wp2
    go_ret;exact⟨_,rfl,by rw[HN.out];simp,hb⟩
theorem containsFunc_any (w:World) (a:Option Addr) (n cap:Nat) (bs:List R3) (h:isR3s w a n cap bs) (hn:n≤1048576) :
  Calls Tryz.prog 116 #[.slice a n cap,.func (.func 117) #[] #[]] w fun o w'=>o = .returned (.bool (!bs.all okFl))∧Below w.heap.size w w':=by
 have HI:Hid (Calls Tryz.prog 159 #[.slice a n cap,.func (.func 117) #[] #[]] w fun o w'=>∃ z:Int,o = .returned (.int .i64 z)∧decide (0≤z) = !bs.all okFl∧Below w.heap.size w w'):=indexFunc_any w a n cap bs h hn
 clear h;go_enter Tryz.func116,Tryz.ntmps116
 go_wp2_with (first | (go_at_call 159;refine HI.out.mono ?_;rintro o w5 ⟨z,rfl,hz,hb5⟩;have HZ:Hid (decide (0≤z) = !bs.all okFl):=hz;clear hz))
 go_ret;exact⟨ret_bool HZ.out,hb5⟩
def okFs (bs:List R3):Bool:=decide (bs.length≤16) && bs.all okFl
theorem validFilters_any (w:World) (a:Option Addr) (n cap:Nat) (bs:List R3) (h:isR3s w a n cap bs) (hn:n≤1048576) :
  Calls Tryz.prog 54 #[.slice a n cap] w fun o w'=>o = .returned (.bool (okFs bs))∧Below w.heap.size w w':=by
 have hl:=h.len
 have HI:Hid (Calls Tryz.prog 116 #[.slice a n cap,.func (.func 117) #[] #[]] w fun o w'=>o = .returned (.bool (!bs.all okFl))∧Below w.heap.size w w'):=containsFunc_any w a n cap bs h hn
 clear h;by_cases h16:n≤16
 ·have HD:Hid (okFs bs=bs.all okFl):=by unfold Hid okFs;rw[show decide (bs.length≤16)=true from decide_eq_true (by omega)];simp
  have hd:decide ((n:Int)≤16)=true:=by simp;omega
  clear hl;have hmf:∀ (fn:Fn) (first cap:Array Value) (w:World),(Instr.makeFunc fn first cap).run Tryz.prog w = .ok (.func fn first cap) w:=fun _ _ _ _=>rfl
  go_enter Tryz.func54,Tryz.ntmps54
  go_wp2_with (first | (go_at_call 116;refine HI.out.mono ?_;rintro o w5 ⟨rfl,hb5⟩))
  go_ret;exact⟨ret_bool (by rw[HD.out];try simp),hb5⟩
 ·have HD:Hid (okFs bs=false):=by unfold Hid okFs;rw[show decide (bs.length≤16)=false from decide_eq_false (by omega)];rfl
  have hd:decide ((n:Int)≤16)=false:=by simp;omega
  clear hl;go_enter Tryz.func54,Tryz.ntmps54
  go_wp2
  go_ret;exact⟨ret_bool HD.out.symm,Below.refl _ _⟩
theorem below_q {B:Nat} (w:World) (q:Nat):Below B w (w.drewN q):=below_drewN (Below.refl _ _) q
theorem okFl_iff (x:R3):okFl x=true↔(x.m<(if x.e=true then 536870912 else 2048)∧x.k<(if x.e=true then 536870912 else 2048)):=by simp[okFl]
set_option maxHeartbeats 4000000 in
theorem l3okFilters_any (w:World) (a:Option Addr) (n cap:Nat) (bs:List R3) (h:isR3s w a n cap bs) (hn:n≤1048576) :
  Calls Tryz.prog 70 #[.slice a n cap] w fun o w'=>o = .returned (.bool (okFs bs))∧Below w.heap.size w w':=by
 have hlen:=h.len
 have hcp:=h.cap
 by_cases h16:n≤16
 ·have HF:Hid (okFs bs=bs.all okFl):=by unfold Hid okFs;rw[show decide (bs.length≤16)=true from decide_eq_true (by omega)];simp
  have hd:decide ((16:Int)<(n:Int))=false:=by simp;omega
  by_cases hl:bs=[]
  ·subst hl;have hn0:n=0:=hlen
   subst hn0;clear hlen h;go_enter Tryz.func70,Tryz.ntmps70
   go_wp2
   go_loopw [3,4] (fun i _ wr=>i = .int .i64 0∧wr=w) (fun _ _ _=>0)
   case atStart=>exact⟨rfl,rfl⟩
   case round=>
    obtain⟨rfl,rfl⟩:=hrel
    go_wp2
    go_ret;exact⟨ret_bool HF.out.symm,Below.refl _ _⟩
  ·obtain⟨g,off,rfl,hc⟩:=h.cells hl
   have HL:Hid (n=bs.length):=hlen
   have HC:Hid (∀ j (h:j<bs.length),at3 w g (off+j*3) bs[j]):=hc
   clear h hlen hc;go_enter Tryz.func70,Tryz.ntmps70
   go_wp2
   go_loopw [3,4] (fun i _ wr=>∃ k:Nat,k≤n∧i = .int .i64 (k:Int)∧(∀ j (hj:j<bs.length),j<k→okFl bs[j]=true)∧∃ q,wr=w.drewN q) (fun i _ _=>n-(intOf i).toNat)
   case atStart=>exact⟨0,Nat.zero_le _,rfl,fun j hj h=>absurd h (Nat.not_lt_zero _),0,rfl⟩
   case round=>
    obtain⟨k,hk,rfl,hdone,q,rfl⟩:=hrel
    have HD:Hid (∀ j (hj:j<bs.length),j<k→okFl bs[j]=true):=hdone
    clear hdone;by_cases hlt:k<n
    ·have hkl:k<bs.length:=by have:=HL.out;omega
     have hx:=HC.out k hkl
     have hgz:=World.block_lt_of_cell? w _ hx.c0
     have x0:=((below_q (B:=w.heap.size) w q).cell (by exact hgz)).trans hx.c0
     have x1:=((below_q (B:=w.heap.size) w q).cell (by exact hgz)).trans hx.c1
     have x2:=((below_q (B:=w.heap.size) w q).cell (by exact hgz)).trans hx.c2
     have HY:Hid (okFl bs[k]=true→∀ j (hj:j<bs.length),j<k+1→okFl bs[j]=true):=fun h=>all_snoc hkl HD.out h
     have HN:Hid (okFl bs[k]=false→bs.all okFl=false):=fun h=>all_no hkl h
     have HO:Hid (okFl bs[k]=true↔(bs[k].m<(if bs[k].e=true then 536870912 else 2048)∧bs[k].k<(if bs[k].e=true then 536870912 else 2048))):=okFl_iff bs[k]
     clear hx;generalize okFl bs[k]=R at *;generalize bs[k].m=m0 at *;generalize bs[k].k=k0 at *;generalize hW:w.drewN q=W at *;have HW:Hid (W=w.drewN q):=hW.symm
     clear hW;cases he:bs[k].e
     ·rw[he] at x0 HO
      clear he;by_cases hm:m0<2048
      ·have hdm:decide (2048≤m0)=false:=by simp;omega
       by_cases hk0:k0<2048
       ·have hdk:decide (2048≤k0)=false:=by simp;omega
        have HR:Hid (R=true):=HO.out.2 (by simp;omega)
        go_wp2
        go_roundw
        case rel=>exact⟨k+1,by omega,by go_num,HY.out HR.out,q,HW.out⟩
        case measure=>simp[intOf];omega
       ·have hdk:decide (2048≤k0)=true:=by simp;omega
        have HR:Hid (R=false):=by cases hR:R with | false=>exact rfl | true=>exact absurd (HO.out.1 hR) (by simp;omega)
        go_wp2
        go_ret;exact⟨ret_bool (by rw[HF.out,HN.out HR.out]),by rw[HW.out];exact below_q w q⟩
      ·have hdm:decide (2048≤m0)=true:=by simp;omega
       have HR:Hid (R=false):=by cases hR:R with | false=>exact rfl | true=>exact absurd (HO.out.1 hR) (by simp;omega)
       go_wp2
       go_ret;exact⟨ret_bool (by rw[HF.out,HN.out HR.out]),by rw[HW.out];exact below_q w q⟩
     ·rw[he] at x0 HO
      clear he;by_cases hm:m0<536870912
      ·have hdm:decide (536870912≤m0)=false:=by simp;omega
       by_cases hk0:k0<536870912
       ·have hdk:decide (536870912≤k0)=false:=by simp;omega
        have HR:Hid (R=true):=HO.out.2 (by simp;omega)
        go_wp2
        go_roundw
        case rel=>exact⟨k+1,by omega,by go_num,HY.out HR.out,q,HW.out⟩
        case measure=>simp[intOf];omega
       ·have hdk:decide (536870912≤k0)=true:=by simp;omega
        have HR:Hid (R=false):=by cases hR:R with | false=>exact rfl | true=>exact absurd (HO.out.1 hR) (by simp;omega)
        go_wp2
        go_ret;exact⟨ret_bool (by rw[HF.out,HN.out HR.out]),by rw[HW.out];exact below_q w q⟩
      ·have hdm:decide (536870912≤m0)=true:=by simp;omega
       have HR:Hid (R=false):=by cases hR:R with | false=>exact rfl | true=>exact absurd (HO.out.1 hR) (by simp;omega)
       go_wp2
       go_ret;exact⟨ret_bool (by rw[HF.out,HN.out HR.out]),by rw[HW.out];exact below_q w q⟩
    ·have HA:Hid (bs.all okFl=true):=all_yes (by have:=HL.out;omega) HD.out
     go_wp2
     go_ret;exact⟨ret_bool (by rw[HF.out,HA.out]),below_q w q⟩
 ·have HF:Hid (okFs bs=false):=by unfold Hid okFs;rw[show decide (bs.length≤16)=false from decide_eq_false (by omega)];rfl
  have hd:decide ((16:Int)<(n:Int))=true:=by simp;omega
  clear h hlen;go_enter Tryz.func70,Tryz.ntmps70
  go_wp2
  go_ret;exact⟨ret_bool HF.out.symm,Below.refl _ _⟩
def mkF (c:Nat):R3:=⟨decide (c % 3=0),((c+1:Nat):Int),((c+2:Nat):Int)⟩
end Go.Proofs.YtaamahohdnbpiaaGreat
