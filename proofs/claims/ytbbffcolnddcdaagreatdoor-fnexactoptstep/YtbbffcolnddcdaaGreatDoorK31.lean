import Derived.Tactics
import Derived.Tactics2
import Derived.Defers
import Derived.Laws.Pointers
import Derived.Laws.LoneSync
import Derived.RegionTactic
import Derived.RegionCalls
import Derived.ChangeAlike
import Derived.Test.YtbbffcolnddcdaaGreatDoorK14
namespace Go.Proofs.YtbbffcolnddcdaaGreatDoor
open Go.Proofs.Tryz
set_option linter.all false
set_option maxRecDepth 100000
open Go.RowKit
set_option maxHeartbeats 16000000
open Go.Value renaming int->I,slice->sL,bool->bO,pointer->pT,agg->aG
open Go.IntKind renaming i64->J
open Go.Ending renaming returned->rT
open Go.Proofs.Tryz renaming prog->Tp
def vV(w:World):(callFunc 315 #[]).run Tp w= .ok (.value (.tuple #[])) w:=run_call_mark0 func315 kr kr kr .disable kr w
def AP(w:World):(callFunc 317 #[]).run Tp w= .ok (.value (.tuple #[])) w:=run_call_mark0 func317 kr kr kr .enable kr w
def Dg(a:Addr)(w:World):(callFunc 318 #[pT (some a)]).run Tp w= .ok (.value (.tuple #[])) w:=run_call_marked func318 kr kr kr .acquire kr a w
def pj(a:Addr)(w:World):(callFunc 320 #[pT (some a)]).run Tp w= .ok (.value (.tuple #[])) w:=run_call_marked func320 kr kr kr .releaseMerge kr a w
def lC(a:Addr)(x:Value)(u:FrameMode)(w:World)(f:w.cell? a=some x)(h:w.frozen? a=false):CallsD Tp 307 #[pT (some a),bO true] u w fun e d w'=>d=u/\(e=rT (.tuple #[])/\w'=w.drew.setCell a (I .u32 1)):=by
 have b:w.drew.cell? a=some x:=by go_simp
 have c:w.drew.frozen? a=false:=by go_simp
 have g:=run_call_store (P:=Tp) func313 kr kr kr kr (k:=.u32) (y:=1) b c;go_enter_d func307,ntmps307
 go_wp2;go_region_calls
 all_goals(go_end0;exact⟨rfl,rfl⟩)
def kN(a:Addr)(u:FrameMode)(w:World)(b:w.cell? a=some (I .i32 1))(c:w.frozen? a=false):CallsD Tp 306 #[pT (some a)] u w fun e d w'=>d=u/\(e=rT (.tuple #[])/\w'=w.setCell a (I .i32 0)):=by
 have hd:=vV;have h:=AP;have i:=pj;have f:=run_call_add (P:=Tp) func321 kr kr kr .i32 kr (y:=-1) (s:=0) b c (by simp[go_sem];rfl);have g:=run_convert_to_unsafe (P:=Tp) (src:=350) (dst:=354) underlying350 underlying354 kr b;go_enter_d func306,ntmps306
 go_wp2;go_end0;go_wp2;go_end0;exact⟨rfl,rfl⟩
def xo(a:Addr)(w:World)(b:w.cell? a=some (I .i32 0))(d:w.frozen? a=false):ce 305 #[pT (some a)] w fun e w'=>e=rT (.tuple #[])/\w'=w.setCell a (I .i32 1):=by
 have hd:=vV;have i:=AP;have f:=Dg;have g:=run_call_cas_hit (P:=Tp) func316 kr kr kr .i32 kr (y:=1) b d;have c:(w.setCell a (I .i32 1)).cell? a=some (I .i32 1):=QD w a _ b;have h:=run_convert_to_unsafe (P:=Tp) (src:=350) (dst:=354) underlying350 underlying354 kr c;go_enter func305,ntmps305;go_wp2;refine bN ?_
 go_wp2;go_end0;exact⟨rfl,rfl⟩
end Go.Proofs.YtbbffcolnddcdaaGreatDoor
