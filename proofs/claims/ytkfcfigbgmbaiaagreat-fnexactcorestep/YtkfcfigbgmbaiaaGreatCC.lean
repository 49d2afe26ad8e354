import Derived.Test.YtkfcfigbgmbaiaaGreatG09
import Derived.Test.YtkfcfigbgmbaiaaGreatCB
namespace Go.Proofs.YtkfcfigbgmbaiaaGreat
open Go.RowKit
set_option linter.unusedVariables false
structure okM (C:Co):Prop where
 p:0≤C.p∧C.p≤7
 te:0≤C.te∧C.te≤256
 re:0≤C.re∧C.re≤255
 of:C.p=7↔C.te=256
 ct:rLo C.p≤C.ct∧C.ct≤rHi C.p
 lv:0≤C.lv∧C.lv≤1
 l1:C.lv=1→C.p=2∧C.wk=true∧0<C.ct
 wk:C.wk=true→C.p=2∧C.ov=false
 ov:C.ov=true→C.p=2∨C.p=3∨C.p=4
 ow:C.ow=true→C.wk=true∧C.tx=true
 tx:C.tx=true→C.p≠7∧C.p≠0
 t6:C.p=6→C.tx=true
 ak:C.ak=true→C.p=7
 rn:0≤C.rn∧C.rn<128
 na:C.ak=false→C.rn=0∧(C.p=7→C.ct=0)
end Go.Proofs.YtkfcfigbgmbaiaaGreat
