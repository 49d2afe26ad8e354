import Derived.Shelf.Small.Bits
import Derived.Shelf.Small.Strs
import Derived.Shelf.Small.Wraps
import Derived.Shelf.Strconv.Itoa0
import Derived.Shelf.Sort.Plain
import Derived.Ground.Names2Prog
import Derived.Shelf.Slices.CompactI
import Derived.Shelf.Slices.SearchI
import Derived.Shelf.Slices.Cells
import Derived.Shelf.Slices.In.SortNone
import Derived.Ground.SlbCloneProg
import Derived.Shelf.Bytes.SlClone
import Derived.Ground.SlgnProg
import Derived.Shelf.SlicesE.Clone
import Derived.Test.YtbbffcolnddcdaaGreatDoorProg
namespace Go.Proofs
open Option renaming none->nn,some->sQ
open Go renaming World->Wd
open Go.Shelf
def Tryz.lays106_ren:Go.Shelf.Ren:=⟨fun|106=>289|213=>302|265=>309|n=>n,fun|9=>9|3=>3|n=>n,fun|n=>n⟩
theorem Tryz.lays106:Go.Proofs.Lays.n106 Tryz.prog Tryz.lays106_ren:={
 mixed:=by kernel_rfl
 f106:=Tryz.func289.trans (congrArg sQ (by kernel_rfl))
 f213:=Tryz.func302.trans (congrArg sQ (by kernel_rfl))
 f265:=Tryz.func309.trans (congrArg sQ (by kernel_rfl))
 t3:=Tryz.underlying3
 a3:=Tryz.isAgg3
 z3:=Tryz.sizeOf3
 v3:=Tryz.zeroValue3
 t9:=Tryz.underlying9
 a9:=Tryz.isAgg9
 z9:=Tryz.sizeOf9
 v9:=Tryz.zeroValue9}
open Go.RowKit in
theorem Tryz.strings_Compare(a b:ByteArray)(w:Wd):Calls Tryz.prog 289 #[.string a,.string b] w fun e w'=>e= .returned (.int .i64 (Lib.compareBytes a.data.toList b.data.toList))/\w'=w:=Any.strings_Compare Tryz.lays106 a b w
def Tryz.lays122_ren:Go.Shelf.Ren:=⟨fun|122=>291|215=>301|n=>n,fun|3=>3|4=>4|n=>n,fun|n=>n⟩
theorem Tryz.lays122:Go.Proofs.Lays.n122 Tryz.prog Tryz.lays122_ren:={
 mixed:=by kernel_rfl
 f122:=Tryz.func291.trans (congrArg sQ (by kernel_rfl))
 f215:=Tryz.func301.trans (congrArg sQ (by kernel_rfl))
 t3:=Tryz.underlying3
 a3:=Tryz.isAgg3
 z3:=Tryz.sizeOf3
 v3:=Tryz.zeroValue3
 t4:=Tryz.underlying4
 a4:=Tryz.isAgg4
 z4:=Tryz.sizeOf4
 v4:=Tryz.zeroValue4}
open Go.RowKit in
theorem Tryz.cmp_Compare_int(x y:Int)(w:Wd):Calls Tryz.prog 291 #[.int .i64 x,.int .i64 y] w fun e w'=>e= .returned (.int .i64 (Lib.compareInt x y))/\w'=w:=Any.cmp_Compare_int Tryz.lays122 x y w
def Tryz.lays189_ren:Go.Shelf.Ren:=⟨fun|189=>239|125=>263|257=>262|128=>284|129=>285|294=>275|295=>276|296=>277|297=>278|298=>279|299=>280|216=>281|300=>282|301=>283|328=>296|329=>297|330=>298|331=>299|332=>300|215=>301|343=>308|n=>n,fun|28=>248|3=>3|46=>159|0=>0|51=>32|53=>108|4=>4|183=>320|182=>319|131=>325|5=>5|9=>9|218=>333|222=>337|228=>344|229=>144|n=>n,fun|n=>n⟩
theorem Tryz.lays189:Go.Proofs.Lays.n189 Tryz.prog Tryz.lays189_ren:={
 mixed:=by kernel_rfl
 f125:=Tryz.func263.trans (congrArg sQ (by kernel_rfl))
 f128:=Tryz.func284.trans (congrArg sQ (by kernel_rfl))
 f129:=Tryz.func285.trans (congrArg sQ (by kernel_rfl))
 f189:=Tryz.func239.trans (congrArg sQ (by kernel_rfl))
 f215:=Tryz.func301.trans (congrArg sQ (by kernel_rfl))
 f216:=Tryz.func281.trans (congrArg sQ (by kernel_rfl))
 f257:=Tryz.func262.trans (congrArg sQ (by kernel_rfl))
 f294:=Tryz.func275.trans (congrArg sQ (by kernel_rfl))
 f295:=Tryz.func276.trans (congrArg sQ (by kernel_rfl))
 f296:=Tryz.func277.trans (congrArg sQ (by kernel_rfl))
 f297:=Tryz.func278.trans (congrArg sQ (by kernel_rfl))
 f298:=Tryz.func279.trans (congrArg sQ (by kernel_rfl))
 f299:=Tryz.func280.trans (congrArg sQ (by kernel_rfl))
 f300:=Tryz.func282.trans (congrArg sQ (by kernel_rfl))
 f301:=Tryz.func283.trans (congrArg sQ (by kernel_rfl))
 f328:=Tryz.func296.trans (congrArg sQ (by kernel_rfl))
 f329:=Tryz.func297.trans (congrArg sQ (by kernel_rfl))
 f330:=Tryz.func298.trans (congrArg sQ (by kernel_rfl))
 f331:=Tryz.func299.trans (congrArg sQ (by kernel_rfl))
 f332:=Tryz.func300.trans (congrArg sQ (by kernel_rfl))
 f343:=Tryz.func308.trans (congrArg sQ (by kernel_rfl))
 t0:=Tryz.underlying0
 a0:=Tryz.isAgg0
 z0:=Tryz.sizeOf0
 v0:=Tryz.zeroValue0
 t3:=Tryz.underlying3
 a3:=Tryz.isAgg3
 z3:=Tryz.sizeOf3
 v3:=Tryz.zeroValue3
 t4:=Tryz.underlying4
 a4:=Tryz.isAgg4
 z4:=Tryz.sizeOf4
 v4:=Tryz.zeroValue4
 t5:=Tryz.underlying5
 a5:=Tryz.isAgg5
 z5:=Tryz.sizeOf5
 v5:=Tryz.zeroValue5
 t9:=Tryz.underlying9
 a9:=Tryz.isAgg9
 z9:=Tryz.sizeOf9
 v9:=Tryz.zeroValue9
 t28:=Tryz.underlying248
 a28:=Tryz.isAgg248
 z28:=Tryz.sizeOf248
 v28:=Tryz.zeroValue248
 t46:=Tryz.underlying159
 a46:=Tryz.isAgg159
 z46:=Tryz.sizeOf159
 v46:=Tryz.zeroValue159
 t51:=Tryz.underlying32
 a51:=Tryz.isAgg32
 z51:=Tryz.sizeOf32
 v51:=Tryz.zeroValue32
 t53:=Tryz.underlying108
 a53:=Tryz.isAgg108
 z53:=Tryz.sizeOf108
 v53:=Tryz.zeroValue108
 t131:=Tryz.underlying325
 a131:=Tryz.isAgg325
 z131:=Tryz.sizeOf325
 v131:=Tryz.zeroValue325
 t182:=Tryz.underlying319
 a182:=Tryz.isAgg319
 z182:=Tryz.sizeOf319
 v182:=Tryz.zeroValue319
 t183:=Tryz.underlying320
 a183:=Tryz.isAgg320
 z183:=Tryz.sizeOf320
 v183:=Tryz.zeroValue320
 t218:=Tryz.underlying333
 a218:=Tryz.isAgg333
 z218:=Tryz.sizeOf333
 v218:=Tryz.zeroValue333
 t222:=Tryz.underlying337
 a222:=Tryz.isAgg337
 z222:=Tryz.sizeOf337
 v222:=Tryz.zeroValue337
 t228:=Tryz.underlying344
 a228:=Tryz.isAgg344
 z228:=Tryz.sizeOf344
 v228:=Tryz.zeroValue344
 t229:=Tryz.underlying144
 a229:=Tryz.isAgg144
 z229:=Tryz.sizeOf144
 v229:=Tryz.zeroValue144}
open Go.Sort Go.RowKit in
theorem Tryz.slices_Sort_int(blk off cap:Nat)(zs:List Int)(w:Wd)(a:Holds (Value.int .i64) w blk off zs.toArray)(b:blk<w.heap.size)(c:zs.length<4611686018427387904):Calls Tryz.prog 239 #[.slice (sQ ⟨blk,off,nn⟩) zs.length cap] w fun e w'=>
   e= .returned (.tuple #[])/\∃n d,w'=grow (putRow (Value.int .i64) (Sort.ahead w n) blk off (zs.mergeSort fun x y=>decide (x<=y)).toArray) d:=Any.slices_Sort_int Tryz.lays189 blk off cap zs w a b c
def Tryz.laysNm220_ren:Go.Shelf.Ren:=⟨fun|20=>240|n=>n,fun|22=>248|3=>3|4=>4|0=>0|n=>n,fun|n=>n⟩
theorem Tryz.laysNm220:Go.Proofs.Lays2.n20 Tryz.prog Tryz.laysNm220_ren:={
 mixed:=by kernel_rfl
 f20:=Tryz.func240.trans (congrArg sQ (by kernel_rfl))
 t0:=Tryz.underlying0
 a0:=Tryz.isAgg0
 z0:=Tryz.sizeOf0
 v0:=Tryz.zeroValue0
 t3:=Tryz.underlying3
 a3:=Tryz.isAgg3
 z3:=Tryz.sizeOf3
 v3:=Tryz.zeroValue3
 t4:=Tryz.underlying4
 a4:=Tryz.isAgg4
 z4:=Tryz.sizeOf4
 v4:=Tryz.zeroValue4
 t22:=Tryz.underlying248
 a22:=Tryz.isAgg248
 z22:=Tryz.sizeOf248
 v22:=Tryz.zeroValue248
 i3:=by kernel_rfl}
open Go.RowKit Go.Lib Go.Sort in
theorem Tryz.slices_Compact_int(blk off cap:Nat)(zs:List Int)(w:Wd)(a:Holds (Value.int .i64) w blk off zs.toArray)(c:zs.length<=9223372036854775807)(b:zs.length<=cap):Calls Tryz.prog 240 #[.slice (sQ ⟨blk,off,nn⟩) zs.length cap] w fun e w'=>e= .returned (.slice (sQ ⟨blk,off,nn⟩) (Lib.compact zs).length cap)/\∃q,w'=putRow (Value.int .i64) (Sort.ahead w q) blk off (Lib.compact zs++List.replicate (zs.length-(Lib.compact zs).length) 0).toArray:=Any.slices_Compact_int Tryz.laysNm220 blk off cap zs w a c b
open Go.RowKit Go.Lib Go.Sort in
theorem Tryz.slices_Compact_int_empty(a:Option Addr)(cap:Nat)(w:Wd):Calls Tryz.prog 240 #[.slice a 0 cap] w fun e w'=>e= .returned (.slice a 0 cap)/\w'=w:=Any.slices_Compact_int_empty Tryz.laysNm220 a cap w
open Go.RowKit Go.Sort in
theorem Tryz.slices_Sort_int_none(p:Option Addr)(cap:Nat)(w:Wd):Calls Tryz.prog 239 #[.slice p 0 cap] w fun e w'=>e= .returned (.tuple #[])/\w'=w:=Any.slices_Sort_int_none Tryz.lays189 p cap w
def Tryz.laysSlK4_ren:Go.Shelf.Ren:=⟨fun|4=>131|n=>n,fun|22=>33|4=>4|5=>5|n=>n,fun|n=>n⟩
theorem Tryz.laysSlK4:Go.Proofs.SlLaysK.n4 Tryz.prog Tryz.laysSlK4_ren:={
 mixed:=by kernel_rfl
 f4:=Tryz.func131.trans (congrArg sQ (by kernel_rfl))
 t4:=Tryz.underlying4
 a4:=Tryz.isAgg4
 z4:=Tryz.sizeOf4
 v4:=Tryz.zeroValue4
 t22:=Tryz.underlying33
 a22:=Tryz.isAgg33
 z22:=Tryz.sizeOf33
 v22:=Tryz.zeroValue33
 t5:=Tryz.underlying5
 i5:=by kernel_rfl}
open Go.RowKit Go.Lib in
theorem Tryz.bytes_Clone_at(a:Addr)(n c:Nat)(xs:List Int)(w:Wd)(g:xs.length=n)(d:n<=140737488355328)(f:∀i,i<n->w.cell? (a.add i)=sQ (.int .u8 (xs.getD i 0))):Calls Tryz.prog 131 #[.slice (sQ a) n c] w fun e w'=>∃b,e= .returned b/\w'.ownsRow w.heap.size 5 1 b n (xs.map (Value.int .u8))/\b≠.slice nn 0 0/\Below w.heap.size w w':=Any.bytes_Clone_at Tryz.laysSlK4 a n c xs w g d f
open Go.RowKit Go.Lib in
theorem Tryz.bytes_Clone_nil(n c:Nat)(w:Wd):Calls Tryz.prog 131 #[.slice nn n c] w fun e w'=>e= .returned (.slice nn 0 0)/\w'=w:=Any.bytes_Clone_nil Tryz.laysSlK4 n c w
end Go.Proofs
