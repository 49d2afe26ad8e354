import Derived.Shelf.Small.Bits
import Derived.Shelf.Small.Strs
import Derived.Shelf.Small.Wraps
import Derived.Shelf.Strconv.Itoa0
import Derived.Shelf.Sort.Plain
import Derived.Ground.Names2Prog
import Derived.Shelf.Slices.CompactI
import Derived.Shelf.Slices.SearchI
import Derived.Shelf.Slices.Cells
import Derived.Shelf.Slices.In.SortNone
import Derived.Ground.SlbCloneProg
import Derived.Shelf.Bytes.SlClone
import Derived.Test.YtnfmjckkibdcaaaGreatDoorProg
namespace Go.Proofs
open Option renaming none->nn,some->sQ
open Go renaming World->Wd
open Go.Shelf
def Tryz.lays106_ren:Go.Shelf.Ren:=⟨fun | 106=>313 | 213=>326 | 265=>332 | n=>n,fun | 9=>9 | 3=>3 | n=>n,fun | n=>n⟩
theorem Tryz.lays106:Go.Proofs.Lays.n106 Tryz.prog Tryz.lays106_ren:={
 mixed:=by kernel_rfl
 f106:=Tryz.func313.trans (congrArg sQ (by kernel_rfl))
 f213:=Tryz.func326.trans (congrArg sQ (by kernel_rfl))
 f265:=Tryz.func332.trans (congrArg sQ (by kernel_rfl))
 t3:=Tryz.underlying3
 a3:=Tryz.isAgg3
 z3:=Tryz.sizeOf3
 v3:=Tryz.zeroValue3
 t9:=Tryz.underlying9
 a9:=Tryz.isAgg9
 z9:=Tryz.sizeOf9
 v9:=Tryz.zeroValue9 }
open Go.RowKit in
theorem Tryz.strings_Compare (a b:ByteArray) (w:Wd) :
  Calls Tryz.prog 313 #[.string a,.string b] w fun e w'=>e = .returned (.int .i64 (Lib.compareBytes a.data.toList b.data.toList))/\w'=w:=Any.strings_Compare Tryz.lays106 a b w
def Tryz.lays122_ren:Go.Shelf.Ren:=⟨fun | 122=>315 | 215=>325 | n=>n,fun | 3=>3 | 4=>4 | n=>n,fun | n=>n⟩
theorem Tryz.lays122:Go.Proofs.Lays.n122 Tryz.prog Tryz.lays122_ren:={
 mixed:=by kernel_rfl
 f122:=Tryz.func315.trans (congrArg sQ (by kernel_rfl))
 f215:=Tryz.func325.trans (congrArg sQ (by kernel_rfl))
 t3:=Tryz.underlying3
 a3:=Tryz.isAgg3
 z3:=Tryz.sizeOf3
 v3:=Tryz.zeroValue3
 t4:=Tryz.underlying4
 a4:=Tryz.isAgg4
 z4:=Tryz.sizeOf4
 v4:=Tryz.zeroValue4 }
open Go.RowKit in
theorem Tryz.cmp_Compare_int (x y:Int) (w:Wd) :
  Calls Tryz.prog 315 #[.int .i64 x,.int .i64 y] w fun e w'=>e = .returned (.int .i64 (Lib.compareInt x y))/\w'=w:=Any.cmp_Compare_int Tryz.lays122 x y w
def Tryz.lays189_ren:Go.Shelf.Ren:=⟨fun | 189=>263 | 125=>286 | 257=>285 | 128=>308 | 129=>309 | 294=>299 | 295=>300 | 296=>301 | 297=>302 | 298=>303 | 299=>304 | 216=>305 | 300=>306 | 301=>307 | 328=>320 | 329=>321 | 330=>322 | 331=>323 | 332=>324 | 215=>325 | 343=>331 | n=>n,fun | 28=>281 | 3=>3 | 46=>225 | 0=>0 | 51=>44 | 53=>125 | 4=>4 | 183=>347 | 182=>346 | 131=>352 | 5=>5 | 9=>9 | 218=>361 | 222=>365 | 228=>370 | 229=>179 | n=>n,fun | n=>n⟩
theorem Tryz.lays189:Go.Proofs.Lays.n189 Tryz.prog Tryz.lays189_ren:={
 mixed:=by kernel_rfl
 f125:=Tryz.func286.trans (congrArg sQ (by kernel_rfl))
 f128:=Tryz.func308.trans (congrArg sQ (by kernel_rfl))
 f129:=Tryz.func309.trans (congrArg sQ (by kernel_rfl))
 f189:=Tryz.func263.trans (congrArg sQ (by kernel_rfl))
 f215:=Tryz.func325.trans (congrArg sQ (by kernel_rfl))
 f216:=Tryz.func305.trans (congrArg sQ (by kernel_rfl))
 f257:=Tryz.func285.trans (congrArg sQ (by kernel_rfl))
 f294:=Tryz.func299.trans (congrArg sQ (by kernel_rfl))
 f295:=Tryz.func300.trans (congrArg sQ (by kernel_rfl))
 f296:=Tryz.func301.trans (congrArg sQ (by kernel_rfl))
 f297:=Tryz.func302.trans (congrArg sQ (by kernel_rfl))
 f298:=Tryz.func303.trans (congrArg sQ (by kernel_rfl))
 f299:=Tryz.func304.trans (congrArg sQ (by kernel_rfl))
 f300:=Tryz.func306.trans (congrArg sQ (by kernel_rfl))
 f301:=Tryz.func307.trans (congrArg sQ (by kernel_rfl))
 f328:=Tryz.func320.trans (congrArg sQ (by kernel_rfl))
 f329:=Tryz.func321.trans (congrArg sQ (by kernel_rfl))
 f330:=Tryz.func322.trans (congrArg sQ (by kernel_rfl))
 f331:=Tryz.func323.trans (congrArg sQ (by kernel_rfl))
 f332:=Tryz.func324.trans (congrArg sQ (by kernel_rfl))
 f343:=Tryz.func331.trans (congrArg sQ (by kernel_rfl))
 t0:=Tryz.underlying0
 a0:=Tryz.isAgg0
 z0:=Tryz.sizeOf0
 v0:=Tryz.zeroValue0
 t3:=Tryz.underlying3
 a3:=Tryz.isAgg3
 z3:=Tryz.sizeOf3
 v3:=Tryz.zeroValue3
 t4:=Tryz.underlying4
 a4:=Tryz.isAgg4
 z4:=Tryz.sizeOf4
 v4:=Tryz.zeroValue4
 t5:=Tryz.underlying5
 a5:=Tryz.isAgg5
 z5:=Tryz.sizeOf5
 v5:=Tryz.zeroValue5
 t9:=Tryz.underlying9
 a9:=Tryz.isAgg9
 z9:=Tryz.sizeOf9
 v9:=Tryz.zeroValue9
 t28:=Tryz.underlying281
 a28:=Tryz.isAgg281
 z28:=Tryz.sizeOf281
 v28:=Tryz.zeroValue281
 t46:=Tryz.underlying225
 a46:=Tryz.isAgg225
 z46:=Tryz.sizeOf225
 v46:=Tryz.zeroValue225
 t51:=Tryz.underlying44
 a51:=Tryz.isAgg44
 z51:=Tryz.sizeOf44
 v51:=Tryz.zeroValue44
 t53:=Tryz.underlying125
 a53:=Tryz.isAgg125
 z53:=Tryz.sizeOf125
 v53:=Tryz.zeroValue125
 t131:=Tryz.underlying352
 a131:=Tryz.isAgg352
 z131:=Tryz.sizeOf352
 v131:=Tryz.zeroValue352
 t182:=Tryz.underlying346
 a182:=Tryz.isAgg346
 z182:=Tryz.sizeOf346
 v182:=Tryz.zeroValue346
 t183:=Tryz.underlying347
 a183:=Tryz.isAgg347
 z183:=Tryz.sizeOf347
 v183:=Tryz.zeroValue347
 t218:=Tryz.underlying361
 a218:=Tryz.isAgg361
 z218:=Tryz.sizeOf361
 v218:=Tryz.zeroValue361
 t222:=Tryz.underlying365
 a222:=Tryz.isAgg365
 z222:=Tryz.sizeOf365
 v222:=Tryz.zeroValue365
 t228:=Tryz.underlying370
 a228:=Tryz.isAgg370
 z228:=Tryz.sizeOf370
 v228:=Tryz.zeroValue370
 t229:=Tryz.underlying179
 a229:=Tryz.isAgg179
 z229:=Tryz.sizeOf179
 v229:=Tryz.zeroValue179 }
open Go.Sort Go.RowKit in
theorem Tryz.slices_Sort_int (blk off cap:Nat) (zs:List Int) (w:Wd) (hH:Holds (Value.int .i64) w blk off zs.toArray) (hblk:blk<w.heap.size) (hsz:zs.length<4611686018427387904) :
  Calls Tryz.prog 263 #[.slice (sQ ⟨blk,off,nn⟩) zs.length cap] w fun e w'=>
   e = .returned (.tuple #[])/\∃ n os,w'=grow (putRow (Value.int .i64) (Sort.ahead w n) blk off (zs.mergeSort fun x y=>decide (x<=y)).toArray) os:=Any.slices_Sort_int Tryz.lays189 blk off cap zs w hH hblk hsz
def Tryz.laysNm220_ren:Go.Shelf.Ren:=⟨fun | 20=>264 | n=>n,fun | 22=>281 | 3=>3 | 4=>4 | 0=>0 | n=>n,fun | n=>n⟩
theorem Tryz.laysNm220:Go.Proofs.Lays2.n20 Tryz.prog Tryz.laysNm220_ren:={
 mixed:=by kernel_rfl
 f20:=Tryz.func264.trans (congrArg sQ (by kernel_rfl))
 t0:=Tryz.underlying0
 a0:=Tryz.isAgg0
 z0:=Tryz.sizeOf0
 v0:=Tryz.zeroValue0
 t3:=Tryz.underlying3
 a3:=Tryz.isAgg3
 z3:=Tryz.sizeOf3
 v3:=Tryz.zeroValue3
 t4:=Tryz.underlying4
 a4:=Tryz.isAgg4
 z4:=Tryz.sizeOf4
 v4:=Tryz.zeroValue4
 t22:=Tryz.underlying281
 a22:=Tryz.isAgg281
 z22:=Tryz.sizeOf281
 v22:=Tryz.zeroValue281
 i3:=by kernel_rfl }
open Go.RowKit Go.Lib Go.Sort in
theorem Tryz.slices_Compact_int (blk off cap:Nat) (zs:List Int) (w:Wd) (hH:Holds (Value.int .i64) w blk off zs.toArray) (hsz:zs.length<=9223372036854775807) (hcap:zs.length<=cap) :
  Calls Tryz.prog 264 #[.slice (sQ ⟨blk,off,nn⟩) zs.length cap] w fun e w'=>e = .returned (.slice (sQ ⟨blk,off,nn⟩) (Lib.compact zs).length cap)/\∃ q,w'=putRow (Value.int .i64) (Sort.ahead w q) blk off (Lib.compact zs++List.replicate (zs.length-(Lib.compact zs).length) 0).toArray:=Any.slices_Compact_int Tryz.laysNm220 blk off cap zs w hH hsz hcap
open Go.RowKit Go.Lib Go.Sort in
theorem Tryz.slices_Compact_int_empty (a:Option Addr) (cap:Nat) (w:Wd) :
  Calls Tryz.prog 264 #[.slice a 0 cap] w fun e w'=>e = .returned (.slice a 0 cap)/\w'=w:=Any.slices_Compact_int_empty Tryz.laysNm220 a cap w
open Go.RowKit Go.Sort in
theorem Tryz.slices_Sort_int_none (p:Option Addr) (cap:Nat) (w:Wd) :
  Calls Tryz.prog 263 #[.slice p 0 cap] w fun e w'=>e = .returned (.tuple #[])/\w'=w:=Any.slices_Sort_int_none Tryz.lays189 p cap w
def Tryz.laysSlK4_ren:Go.Shelf.Ren:=⟨fun | 4=>161 | n=>n,fun | 22=>45 | 4=>4 | 5=>5 | n=>n,fun | n=>n⟩
theorem Tryz.laysSlK4:Go.Proofs.SlLaysK.n4 Tryz.prog Tryz.laysSlK4_ren:={
 mixed:=by kernel_rfl
 f4:=Tryz.func161.trans (congrArg sQ (by kernel_rfl))
 t4:=Tryz.underlying4
 a4:=Tryz.isAgg4
 z4:=Tryz.sizeOf4
 v4:=Tryz.zeroValue4
 t22:=Tryz.underlying45
 a22:=Tryz.isAgg45
 z22:=Tryz.sizeOf45
 v22:=Tryz.zeroValue45
 t5:=Tryz.underlying5
 i5:=by kernel_rfl }
open Go.RowKit Go.Lib in
theorem Tryz.bytes_Clone_at (a:Addr) (n c:Nat) (xs:List Int) (w:Wd) (hx:xs.length=n) (hbig:n<=140737488355328) (hc:∀ i,i<n->w.cell? (a.add i)=sQ (.int .u8 (xs.getD i 0))) :
  Calls Tryz.prog 161 #[.slice (sQ a) n c] w fun e w'=>∃ v',e = .returned v'/\w'.ownsRow w.heap.size 5 1 v' n (xs.map (Value.int .u8))/\v'≠.slice nn 0 0/\Below w.heap.size w w':=Any.bytes_Clone_at Tryz.laysSlK4 a n c xs w hx hbig hc
open Go.RowKit Go.Lib in
theorem Tryz.bytes_Clone_nil (n c:Nat) (w:Wd) :
  Calls Tryz.prog 161 #[.slice nn n c] w fun e w'=>e = .returned (.slice nn 0 0)/\w'=w:=Any.bytes_Clone_nil Tryz.laysSlK4 n c w
end Go.Proofs
