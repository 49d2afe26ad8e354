import Derived.Test.YtkfcfigbgmbaiaaGreatG04
namespace Go.Proofs.YtkfcfigbgmbaiaaGreat
open Go.RowKit
set_option linter.unusedVariables false
def esZ (p t r:Int):Int:=if p=7 then 2 else if 128≤t∨128≤r then 1 else 0
theorem l4state_any (w:World) (p t r:Int):Calls Tryz.prog 62 #[.int .i64 p,.int .i64 t,.int .i64 r] w fun o w'=>o = .returned (.int .i64 (esZ p t r))∧w=w':=by
 by_cases h:p=7
 ·have HZ:Hid (esZ p t r=2):=by unfold Hid esZ;rw[if_pos h]
  have hd:(p == 7)=true:=by simpa using h
  clear h;go_enter Tryz.func62,Tryz.ntmps62
  go_wp2
  go_ret;exact⟨ret_int HZ.out.symm,rfl⟩
 ·have hd:(p == 7)=false:=by simpa using h
  by_cases ht:128≤t
  ·have HZ:Hid (esZ p t r=1):=by unfold Hid esZ;rw[if_neg h,if_pos (.inl ht)]
   have hd1:decide (128≤t)=true:=by simpa using ht
   clear h;go_enter Tryz.func62,Tryz.ntmps62
   go_wp2
   go_ret;exact⟨ret_int HZ.out.symm,rfl⟩
  ·have hd1:decide (128≤t)=false:=by simpa using ht
   by_cases hr:128≤r
   ·have HZ:Hid (esZ p t r=1):=by unfold Hid esZ;rw[if_neg h,if_pos (.inr hr)]
    have hd2:decide (128≤r)=true:=by simpa using hr
    clear h;go_enter Tryz.func62,Tryz.ntmps62
    go_wp2
    go_ret;exact⟨ret_int HZ.out.symm,rfl⟩
   ·have hd2:decide (128≤r)=false:=by simpa using hr
    have HZ:Hid (esZ p t r=0):=by unfold Hid esZ;rw[if_neg h,if_neg (by omega)]
    clear h;go_enter Tryz.func62,Tryz.ntmps62
    go_wp2
    go_ret;exact⟨ret_int HZ.out.symm,rfl⟩
theorem stateOf_any (w:World) (p t r:Int) (b:Bool) (hb:b=decide (p=7)):Calls Tryz.prog 70 #[.bool b,.int .i64 t,.int .i64 r] w fun o w'=>o = .returned (.int .i64 (esZ p t r))∧w=w':=by
 by_cases h:p=7
 ·have HZ:Hid (esZ p t r=2):=by unfold Hid esZ;rw[if_pos h]
  have hd:b=true:=by rw[hb];simpa using h
  subst hd;clear hb h;go_enter Tryz.func70,Tryz.ntmps70
  go_wp2
  go_ret;exact⟨ret_int HZ.out.symm,rfl⟩
 ·have hd:b=false:=by rw[hb];simpa using h
  subst hd;by_cases ht:128≤max t r
  ·have HZ:Hid (esZ p t r=1):=by unfold Hid esZ;rw[if_neg h,if_pos (by omega)]
   clear hb h;have hd1:decide (128≤max t r)=true:=by simpa using ht
   go_enter Tryz.func70,Tryz.ntmps70
   go_wp2
   all_goals
    go_ret;exact⟨ret_int HZ.out.symm,rfl⟩
  ·have HZ:Hid (esZ p t r=0):=by unfold Hid esZ;rw[if_neg h,if_neg (by omega)]
   clear hb h;have hd1:decide (128≤max t r)=false:=by simpa using ht
   go_enter Tryz.func70,Tryz.ntmps70
   go_wp2
   all_goals
    go_ret;exact⟨ret_int HZ.out.symm,rfl⟩
def rLo (p:Int):Int:=if p=4 then 1 else 0
def rHi (p:Int):Int:=if p=2 then 5 else if p=3 then 15 else if p=4 then 7 else if p=5 then 2 else if p=6 then 7 else if p=7 then 10 else 0
theorem l4room_any (w:World) (p:Int):Calls Tryz.prog 75 #[.int .i64 p] w fun o w'=>o = .returned (.tuple #[.int .i64 (rLo p),.int .i64 (rHi p)])∧w=w':=by
 by_cases h2:p=2
 ·subst h2;go_enter Tryz.func75,Tryz.ntmps75
  go_wp2
  go_ret2
  exact⟨rfl,rfl⟩
 by_cases h3:p=3
 ·subst h3;go_enter Tryz.func75,Tryz.ntmps75
  go_wp2
  go_ret2
  exact⟨rfl,rfl⟩
 by_cases h4:p=4
 ·subst h4;go_enter Tryz.func75,Tryz.ntmps75
  go_wp2
  go_ret2
  exact⟨rfl,rfl⟩
 by_cases h5:p=5
 ·subst h5;go_enter Tryz.func75,Tryz.ntmps75
  go_wp2
  go_ret2
  exact⟨rfl,rfl⟩
 by_cases h6:p=6
 ·subst h6;go_enter Tryz.func75,Tryz.ntmps75
  go_wp2
  go_ret2
  exact⟨rfl,rfl⟩
 by_cases h7:p=7
 ·subst h7;go_enter Tryz.func75,Tryz.ntmps75
  go_wp2
  go_ret2
  exact⟨rfl,rfl⟩
 have HZ:Hid (rLo p=0∧rHi p=0):=by unfold Hid rLo rHi;rw[if_neg h4,if_neg h2,if_neg h3,if_neg h4,if_neg h5,if_neg h6,if_neg h7];exact⟨rfl,rfl⟩
 have e2:(p == 2)=false:=by simpa using h2
 have e3:(p == 3)=false:=by simpa using h3
 have e4:(p == 4)=false:=by simpa using h4
 have e5:(p == 5)=false:=by simpa using h5
 have e6:(p == 6)=false:=by simpa using h6
 have e7:(p == 7)=false:=by simpa using h7
 clear h2 h3 h4 h5 h6 h7;go_enter Tryz.func75,Tryz.ntmps75
 go_wp2
 go_ret2
 exact⟨by rw[HZ.out.1,HZ.out.2];rfl,rfl⟩
end Go.Proofs.YtkfcfigbgmbaiaaGreat
