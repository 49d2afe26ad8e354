import Derived.Test.YtnfmjckkibdcaaaGreatDoorK27
import Derived.Tactics
import Derived.Tactics2
import Derived.Defers
import Derived.Laws.Pointers
import Derived.Laws.LoneSync
import Derived.RegionTactic
import Derived.RegionCalls
import Derived.ChangeAlike
namespace Go.Proofs.YtnfmjckkibdcaaaGreatDoor
set_option linter.all false
set_option maxRecDepth 100000
open Go.RowKit
set_option maxHeartbeats 16000000
open Go.Value renaming int->I,slice->sL,bool->bO,pointer->pT,agg->aG
open Go.IntKind renaming i64->J
open Go.Ending renaming returned->rT
open Go.Proofs.Tryz renaming prog->Tp
def vi (w:World):(callFunc 333 #[]).run Tp w = .ok (.value (.tuple #[])) w:=run_call_mark0 Tryz.func333 kr kr kr .disable kr w
def zQ (w:World):(callFunc 335 #[]).run Tp w = .ok (.value (.tuple #[])) w:=run_call_mark0 Tryz.func335 kr kr kr .enable kr w
def Cl (a:Addr) (w:World):(callFunc 336 #[pT (some a)]).run Tp w = .ok (.value (.tuple #[])) w:=run_call_marked Tryz.func336 kr kr kr .acquire kr a w
def GP (a:Addr) (w:World):(callFunc 338 #[pT (some a)]).run Tp w = .ok (.value (.tuple #[])) w:=run_call_marked Tryz.func338 kr kr kr .releaseMerge kr a w
def kK (a:Addr) (x:Value) (u:FrameMode) (w:World) (hc:w.cell? a=some x) (hz:w.frozen? a=false) :
  CallsD Tp 319 #[pT (some a),bO true] u w fun e u' w'=>u'=u/\(e = rT (.tuple #[])/\w'=w.drew.setCell a (I .u32 1)):=by
 have hc':w.drew.cell? a=some x:=by go_simp
 have hz':w.drew.frozen? a=false:=by go_simp
 have hst:=run_call_store (P:=Tp) Tryz.func329 kr kr kr kr (k:=.u32) (y:=1) hc' hz';go_enter_d Tryz.func319,Tryz.ntmps319
 go_wp2;go_region_calls
 all_goals (go_end0;exact⟨rfl,rfl⟩)
def ki (a:Addr) (u:FrameMode) (w:World) (hc:w.cell? a=some (I .i32 1)) (hz:w.frozen? a=false) :
  CallsD Tp 318 #[pT (some a)] u w fun e u' w'=>u'=u/\(e = rT (.tuple #[])/\w'=w.setCell a (I .i32 0)):=by
 have hd:=vi;have he:=zQ;have hr:=GP;have hadd:=run_call_add (P:=Tp) Tryz.func339 kr kr kr .i32 kr (y:=-1) (s:=0) hc hz (by simp[go_sem];rfl);have hcv:=run_convert_to_unsafe (P:=Tp) (src:=372) (dst:=376) Tryz.underlying372 Tryz.underlying376 kr hc;go_enter_d Tryz.func318,Tryz.ntmps318
 go_wp2;go_end0;go_wp2;go_end0;exact⟨rfl,rfl⟩
def wA (a:Addr) (w:World) (hc:w.cell? a=some (I .i32 0)) (hz:w.frozen? a=false) :
  Calls Tp 317 #[pT (some a)] w fun e w'=>e = rT (.tuple #[])/\w'=w.setCell a (I .i32 1):=by
 have hd:=vi;have he:=zQ;have ha:=Cl;have hcas:=run_call_cas_hit (P:=Tp) Tryz.func334 kr kr kr .i32 kr (y:=1) hc hz;have hc':(w.setCell a (I .i32 1)).cell? a=some (I .i32 1):=QT w a _ hc;have hcv:=run_convert_to_unsafe (P:=Tp) (src:=372) (dst:=376) Tryz.underlying372 Tryz.underlying376 kr hc';go_enter Tryz.func317,Tryz.ntmps317;go_wp2;first | go_end0 | (try simp only[Exit.inBlock,Exit.then]);refine bN ?_
 go_wp2;go_end0;exact⟨rfl,rfl⟩
end Go.Proofs.YtnfmjckkibdcaaaGreatDoor
