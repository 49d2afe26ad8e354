import Derived.Test.YtgfolecanghhhaaGreatK04
import Derived.Test.YtgfolecanghhhaaGreatK00
import Derived.Deep.RegionWith
import Derived.Deep.DeepCutAuto
namespace Go.Proofs.YtgfolecanghhhaaGreat
open Go.Proofs.Tryz
set_option maxRecDepth 20000
open Go.RowKit
set_option linter.all false
set_option maxHeartbeats 16000000
open Go.Value renaming int->I,slice->sL,bool->bO,pointer->pT,agg->aG
open Go.IntKind renaming i64->J
open Go.Ending renaming returned->rT
open Go.Proofs.Tryz renaming prog->Tp
def imP (E hd:List UInt8):Prop:=hd.length<E.length/\∀ i (h:i<hd.length) (h':i<E.length),hd[i]=if i=E.length-9 then 48 else E[i]
def MT (E:List UInt8) (n:Nat) (h:n<E.length):E.take n++[48]++E.drop (n+1)=E.set n 48:=by
 rw[List.set_eq_take_append_cons_drop,qc h];simp
def AS (s p:List UInt8):Go.Lib.hasPrefix s p=true↔p.length<=s.length/\∀ i (h:i<p.length) (h':i<s.length),p[i]=s[i]:=by
 unfold Go.Lib.hasPrefix;rw[List.isPrefixOf_iff_prefix,List.prefix_iff_getElem];constructor
 .rintro⟨h1,h2⟩;exact⟨h1,fun i h h'=>h2 i h⟩
 .rintro⟨h1,h2⟩;exact⟨h1,fun i h=>h2 i h om⟩
def BA (E hd:List UInt8):(hd.length<(E.set (E.length-9) 48).length/\Go.Lib.hasPrefix (E.set (E.length-9) 48) hd=true)↔imP E hd:=by
 rw[AS];simp only[qJ];constructor
 .rintro⟨h1,h2,h3⟩;refine⟨h1,fun i hi h'=>?_⟩;rw[h3 i hi h',List.getElem_set];by_cases e:E.length-9=i
  .rw[qc e,qc e.symm]
  .rw[qa e,qa (fun x=>e x.symm)]
 .rintro⟨h1,h2⟩;refine⟨h1,om,fun i hi h'=>?_⟩;rw[h2 i hi h',List.getElem_set];by_cases e:E.length-9=i
  .rw[qc e,qc e.symm]
  .rw[qa e,qa (fun x=>e x.symm)]
def jQ (E:ByteArray):ByteArray:=E.extract 0 (E.size-9)++⟨#[48]⟩++E.extract (E.size-9+1) E.size
def Cm (w:World) (E:ByteArray) (h:10<=E.size) (h2:E.size<=1000000):Calls Tp 87 #[.string E] w fun o w'=>o = rT (.string (jQ E))/\Bl w w':=by
 have hw:IntKind.i64.wrap ((E.size:Int)-9)=((E.size-9:Nat):Int):=by rw[QR];omega
 have hw2:IntKind.i64.wrap (((E.size-9:Nat):Int)+1)=((E.size-9+1:Nat):Int):=by rw[QR];omega
 have HA:Hid (jQ E=E.extract 0 (E.size-9)++⟨#[48]⟩++E.extract (E.size-9+1) E.size):=rfl;have hle:E.size-9<=E.size:=om;have hle2:E.size-9+1<=E.size:=om;go_enter func87,ntmps87;go_upto_region 2 with fail
 go_region_with fail;all_goals
  go_wp2_with fail;go_ret;exact⟨by rw[HA.o];rfl,(bW _ _).drew⟩
def r9 (a b:ByteArray):(a++b).data.toList=a.data.toList++b.data.toList:=by
 rw[ByteArray.data_append,Array.toList_append]
def rF (s:ByteArray) (a b:Nat):(s.extract a b).data.toList=(s.data.toList.drop a).take (b-a):=by rw[<- Go.Lib.toList_data,Go.Lib.extract_toList]
def xy (E:ByteArray) (h:10<=E.size):(jQ E).data.toList=E.data.toList.set (E.data.toList.length-9) 48:=by
 have hs:=Go.Lib.size_eq E;rw[<- MT _ _ om,<- hs];unfold jQ;rw[r9,r9,rF,rF,List.drop_zero,Nat.sub_zero];congr 1;rw[qf];rw[Qg];omega
def KC (w:World) (b:Bool):Calls Tp 292 #[bO b] w fun o w'=>o = rT (I J (if b=true then 0 else 1))/\w'=w:=by
 cases b
 .go_enter func292,ntmps292;go_wp2_with fail;go_ret;exact⟨rfl,rfl⟩
 .go_enter func292,ntmps292;go_wp2_with fail;go_ret;exact⟨rfl,rfl⟩
end Go.Proofs.YtgfolecanghhhaaGreat
