import Derived.Test.YtbllefckefhpoaaGreatK01
import Derived.Test.YtbllefckefhpoaaGreatK20
import Derived.Deep.RegionWith
import Derived.Deep.DeepCutAuto
namespace Go.Proofs.YtbllefckefhpoaaGreat
open Go.RowKit
set_option linter.unusedVariables false
set_option maxHeartbeats 16000000
open Go.Value renaming int→I,slice→sL,bool→bO,pointer→pT,agg→aG
open Go.IntKind renaming i64→J
open Go.Ending renaming returned→rT
open Go.Proofs.Tryz renaming prog→Tp
def imP (E hd:List UInt8):Prop:=hd.length<E.length∧∀ i (h:i<hd.length) (h':i<E.length),hd[i]=if i=E.length-9 then 48 else E[i]
theorem ackL (E:List UInt8) (n:Nat) (h:n<E.length):E.take n++[48]++E.drop (n+1)=E.set n 48:=by
 rw[List.set_eq_take_append_cons_drop,if_pos h]
 simp
theorem pre_iff (s p:List UInt8):Go.Lib.hasPrefix s p=true↔p.length≤s.length∧∀ i (h:i<p.length) (h':i<s.length),p[i]=s[i]:=by
 unfold Go.Lib.hasPrefix
 rw[List.isPrefixOf_iff_prefix,List.prefix_iff_getElem]
 constructor
 ·rintro⟨h1,h2⟩;exact⟨h1,fun i h h'=>h2 i h⟩
 ·rintro⟨h1,h2⟩;exact⟨h1,fun i h=>h2 i h (by omega)⟩
theorem imP_iff (E hd:List UInt8):(hd.length<(E.set (E.length-9) 48).length∧Go.Lib.hasPrefix (E.set (E.length-9) 48) hd=true)↔imP E hd:=by
 rw[pre_iff]
 simp only[List.length_set]
 constructor
 ·rintro⟨h1,h2,h3⟩;refine⟨h1,fun i hi h'=>?_⟩
  rw[h3 i hi h',List.getElem_set]
  by_cases e:E.length-9=i
  ·rw[if_pos e,if_pos e.symm]
  ·rw[if_neg e,if_neg (fun x=>e x.symm)]
 ·rintro⟨h1,h2⟩;refine⟨h1,by omega,fun i hi h'=>?_⟩
  rw[h2 i hi h',List.getElem_set]
  by_cases e:E.length-9=i
  ·rw[if_pos e,if_pos e.symm]
  ·rw[if_neg e,if_neg (fun x=>e x.symm)]
def ackB (E:ByteArray):ByteArray:=E.extract 0 (E.size-9)++⟨#[48]⟩++E.extract (E.size-9+1) E.size
set_option maxRecDepth 20000 in
theorem ack_any (w:World) (E:ByteArray) (h:10≤E.size) (h2:E.size≤1000000):Calls Tp 74 #[.string E] w fun o w'=>o = rT (.string (ackB E))∧Below w.heap.size w w':=by
 have hw:IntKind.i64.wrap ((E.size:Int)-9)=((E.size-9:Nat):Int):=by rw[IntKind.wrap_i64];omega
 have hw2:IntKind.i64.wrap (((E.size-9:Nat):Int)+1)=((E.size-9+1:Nat):Int):=by rw[IntKind.wrap_i64];omega
 have HA:Hid (ackB E=E.extract 0 (E.size-9)++⟨#[48]⟩++E.extract (E.size-9+1) E.size):=rfl
 have hle:E.size-9≤E.size:=by omega
 have hle2:E.size-9+1≤E.size:=by omega
 go_enter Tryz.func74,Tryz.ntmps74
 go_upto_region 2 with fail
 go_region_with fail
 all_goals
  go_wp2_with fail;go_ret;exact⟨by rw[HA.out];rfl,(Below.refl _ _).drew⟩
theorem app_data (a b:ByteArray):(a++b).data.toList=a.data.toList++b.data.toList:=by
 rw[ByteArray.data_append,Array.toList_append]
theorem ext_data (s:ByteArray) (a b:Nat):(s.extract a b).data.toList=(s.data.toList.drop a).take (b-a):=by rw[← Go.Lib.toList_data,Go.Lib.extract_toList]
theorem ackB_list (E:ByteArray) (h:10≤E.size):(ackB E).data.toList=E.data.toList.set (E.data.toList.length-9) 48:=by
 have hs:=Go.Lib.size_eq E
 rw[← ackL _ _ (by omega),← hs]
 unfold ackB
 rw[app_data,app_data,ext_data,ext_data,List.drop_zero,Nat.sub_zero]
 congr 1
 rw[List.take_of_length_le]
 rw[List.length_drop]
 omega
theorem ackLv_any (w:World) (b:Bool):Calls Tp 264 #[bO b] w fun o w'=>o = rT (I J (if b=true then 0 else 1))∧w'=w:=by
 cases b
 ·go_enter Tryz.func264,Tryz.ntmps264
  go_wp2_with fail;go_ret;exact⟨rfl,rfl⟩
 ·go_enter Tryz.func264,Tryz.ntmps264
  go_wp2_with fail;go_ret;exact⟨rfl,rfl⟩
end Go.Proofs.YtbllefckefhpoaaGreat
